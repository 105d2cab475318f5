import PyProof.Rows.All
import Wide.All
import OpenK.AllK
import Wide.FinOn
import Lean
import PyProof.EqAt
import PyProof.EqKinds
import PyProof.TupleCall
import PySem.Challenge.RW_holebook_k32_lots_of_points
set_option linter.all false
set_option Elab.async false
set_option maxRecDepth 100000
set_option maxHeartbeats 0
set_option compiler.extract_closed false
noncomputable section
local macro_rules|`(tactic|omega)=>`(tactic|first|with_reducible assumption|with_reducible exact Nat.le_trans (by assumption) (Nat.le_of_ble_eq_true rfl)|with_reducible exact Nat.lt_of_lt_of_le (by assumption) (by assumption)|with_reducible exact Nat.le_of_lt (by assumption)|lia)
local macro_rules|`(tactic|ac_rfl)=>`(tactic|first|exact .inl rfl|exact .inr rfl|assumption)
local macro_rules|`(command|mutual $cs* end)=>do
 unless cs[0]!.raw.isOfKind ``Lean.Parser.Command.check do Lean.Macro.throwUnsupported
 let some l:=cs[0]!.raw.find? (·.isOfKind `«term[_]»)|Lean.Macro.throwUnsupported
 let d:Char->Nat:=fun c=>if c.isDigit then c.toNat-48 else c.toNat-55
 let a:Char->Nat:=fun c=>if c.isLower then c.toNat-97 else c.toNat-39
 let e:Lean.Syntax->Nat:=fun s=>match s.getId.toString.toList with
  | [x]=>a x
  | [x,y]=>52+a x*36+d y
  | [x,y,z]=>1924+(a x*36+d y)*36+d z
  | _=>1000000
 let f:Array Lean.Syntax->Lean.Syntax->Lean.Syntax:=fun m s=>s.rewriteBottomUp fun x=>
  if x.isOfKind ``Lean.Parser.Term.syntheticHole then m.getD (e x[1]) x
  else if x.isOfKind ``Lean.Parser.Term.app&&x[0].isOfKind ``Lean.Parser.Term.explicit&&x[0][1].isOfKind ``Lean.Parser.Term.paren then
   x[0][1][1].rewriteBottomUp fun y=>if y.isOfKind ``Lean.Parser.Term.syntheticHole&&e y[1]<2 then x[1][e y[1]] else y
  else if x.isOfKind Lean.nullKind&&x.getArgs.any (fun y=>y.isOfKind ``Lean.Parser.Term.instBinder&&y[2].isOfKind ``Lean.Parser.Term.forall) then
   x.setArgs (x.getArgs.flatMap fun y=>if y.isOfKind ``Lean.Parser.Term.instBinder&&y[2].isOfKind ``Lean.Parser.Term.forall then y[2][1].getArgs else #[y])
  else if x.isOfKind ``Lean.Elab.Tactic.Ext.ext then
   match x.find? (·.isIdent) with
   | some i=>match m[e i]? with
    | some t=>Lean.mkNode ``Lean.Parser.Tactic.paren #[Lean.mkAtom "(",t[1],Lean.mkAtom ")"]
    | none=>x
   | none=>x
  else x
 let mut m:=l[1].getSepArgs.map fun x=>if x.isOfKind ``Lean.Parser.Term.inaccessible then x[1] else x
 for _ in [0:((cs[0]!.raw.find? (·.isOfKind `num)).get!.isNatLit?).get!] do m:=m.map (f m)
 return Lean.mkNullNode ((cs.extract 1 cs.size).map fun c=>
  if c.raw.isOfKind ``Lean.Parser.Command.universe then
   let i:=c.raw[1][0]
   Lean.mkNode ``Lean.Parser.Command.end #[Lean.mkAtom "end",Lean.mkNullNode (if i.getId==`e9 then #[] else #[i,Lean.mkNullNode])]
  else
   let c:=(f m c.raw).rewriteBottomUp fun x=>x.setInfo .none
   if c[1].isOfKind ``Lean.Parser.Command.definition&&!c[1][3][1].isOfKind ``Lean.Parser.Term.explicit then c.setArg 0 (c[0].setArg 4 (Lean.mkNullNode #[Lean.mkNode ``Lean.Parser.Command.noncomputable #[Lean.mkAtom "noncomputable"]])) else c)
mutual
#check(4,[?a,?b,some,wpAny,∀(I:?p),a,X.env,(model ?X X.w),X.xe,.int,.inl,∀(K:W.Frag),a,List,.ref,(Ck I q ?P),s.heap,?vX H s,?l V,?c u,.(by obtain⟨t',rfl⟩:=ry),∀{A:Around},a,?l ?L,?c o,.non,outer,absurd,St->?aB,H b=none,?l Addr,∀(Ac:Bg) (s:Shared) (σ:St) (H:Hp),a,if_neg,.nil,Vals,.inr,?l Str,.(by intro Ac s σ H Q I h),.cons,decide,Value,∀{us:?u},a,∀{pos:Pos},a,∀{u:Value},a,(?aA),∀{E:?bQ},a,name,(?hI),(?g7),eval,(?m f),k _ _ ?fM e,X.prog,.BoolOp,∀(X:Cx)(Ac:Bg),a,∀{K:W.Frag},a,(e::es),kindOf,RelV,?c v,base,.Call,2 ^ 62,s.heap.objs.size,?eH a,.(by simp),?xY Hp,.(by exact ?nG),.(by obtain⟨x,H1,I1,r1,q1⟩:=_z),∀{Ac:Bg}{σ:St}{H:Hp}{s:Shared},a,∀{P:Program}{w:World},a,∀(s':Shared),a,.(by exact qb2 e),∀(a:Addr),a,∀(h:Heap),a,(model prog w),I.free,compareOp,I.freeC,if_pos,?l (Str × V),?a3 v u,ObjOk,qual,I.hok,?m a,?kB x=?fX,?i i,?h3=?v,scope,∀{Q:?bQ},a,∀(vs:?q),a,∀(s:Shared),a,∀{s:Shared},a,∀{a:Addr},a,∀{e:Expr},a,(n:Int),?cO b=?v,I.bare,⟨_,rfl⟩,?F xs us,.Attribute,W.findIn,Option,starEach,.str _,.type,X.base,Str->?dI,?l Env,(g i j),?l Stmt,.builtin,?f7 ?L,s1.heap.objs.size,?c .local,its.toArray,?L->?cG,?a3 x u,(vs++dvs),.Name,congrArg,(?fK),(EP X Ac σ Q),X.stack,false,D.nx σ H,(I.ok.hd hc),I.cell,∀(ha:?rG)(hb:?x1 b tb),a,∀(P:Program)(w:World),a,∀(us:?u),a,∀{i:Nat}{x:Str},a,∀(r:?aQ),a,∀(xs:?q),a,∀{xs:?q},a,I.ok.kind,{ s with toks:=s.toks+1 },(model P w),?i _,Pv i σ H,I.base.free,Bool,?xY Shared,xs[i]?=?cX,s'.heap,(?w8 he h),(?m x),.bl _,xs.length<=sizeLine,[?aU],s.heap.get?,b≠X.env.locals,none,(?m it),binaryOp,?U e ?f,.str x,I.os,Dy K H a xs,?c x,I.pin,?G x,.(by intro X hP hw hK hc i Ac s σ H E I hf st hg;subst hP hw hK),∀(hf:?j2\/X.env.scope.names.lookup x=?bO:=by ac_rfl),a,.(by obtain⟨f0,f1,f2,f3,f4,f5⟩:=hf it ?P),∀(F:By ?X X.w X.K X.mg ?bG CX k f fd ps sp),a,.(by intro Ac s σ H D I h),.(by obtain⟨t,rfl⟩:=r),∀(R:?lH),a,∀(outer:?bI),a,∀(he:?nO),a,∀{es:?e7},a,∀(A:Around),a,?bC V,bindC,(qb2 e),b ∉ ch,c=true,?xA us,V->?jD,?bC ?L,I.tok _,?fH ?kY,?c ?cQ,F6 k A,(upd H a o),"range",(?aU),V->?aB,envOfC ?aS ?aY ?a8 f cd,Value.ref,fun v s1 _z=>?_,u=?dS a,backTo,fun b hb=>?_,I.kIn,(?a4),I.loc,K.In ?o,(i+1),xS K a,b ∉ ex,⟨x,H1,I1,r1,q1⟩,.(by simp at h),scope.names.lookup,?l Expr,?J r t,fun _ _ q=>q,holding,?c .cell,.fields,items,(?iZ).any,h'.get?,(x=?aU),h.get?,SqL K H a xs,(?w8 ha h),False.elim,(qn7 _),xT K a,X.mg x,?eF b,t σ H Q,X.base.get? b=?v,bindL,(by decide),Paired,∀(s:Shared) (Q:?bQ) (E:?bQ),a,∀(hb:?tZ)(hd:?oF)(hx:?sF),a,∀(hd:?mK:=by decide),a,∀{Ac:Bg}{s:Shared}{σ:St}{H:Hp},a,∀(E:?bQ),a,.(by obtain⟨t,rfl⟩:=rx),∀{Q:Unit->?cG},a,∀(ha:PA X ?a1 t),a,∀(Q:?nA),a,∀(Q:VK)(x:V)(H1:Hp),a,∀(ha:PT X a tA),a,∀(x:?jS),a,∀(hg:?lK),a,Array,fun _=>none,(hi-lo).toNat,Sum.inl,?c1 x c e,Nat->?j8,s.heap.FunFrames,?c (?l2),Ne.symm,(.tup xs),s.heap.push,?D hk,{ s with heap:=h',toks:=t' },qa1 _,⟨H1,I1,q1⟩,(?j rfl),Sum.inr,I.list,(∀σ' H',?jH->∃m',m'<m/\W ?e1 m' σ' H'),X.calm=true,(b,o),pure ?bY,?aO hj,assign,(neC b o e hx),w::vs,?c c,{ s with heap:=h' },.(by ext i3),?j i,Pv ?e1,?c ?fG,fun b o e n hb hx=>?_,(by omega),IsTup,.bool,s.heap.objs.size+1,?eO=?v,pos.line,((p,w)::?j0),X.outer,callWith,X.N[i]?=?cX,?c .free,(x=.bl c),2 ^ 64,(?bT x pos),X.env.locals,I.base.keep,(backToKw pos (keywordEach [] ?f)),fs.lookup,∀b∈fp,?gX,fs.map,LI ?bX,qb7 _ rfl,k b u q,.Constant,I.len,SJ lo n,I.ok.bs b o e,g x σ H' fun σ2 H2=>tb ?tP σ2 H2,.(by simpa using hb),H' b=none,(.lst xs),?c (.own a),?a3 y u,.Compare,b ∉ X.fs,?eH b,.bl ?bY,H a=?v,(start N vs),Q v H',?c (?c ?V),bootBuiltins x,?aO hk,(ps.zip us),?D hj,?F xs its,(k,x)::r,W i m σ H,behindInMarks op b=false,(?i i t),?m C,.bl k,PySem.W.instObj,?a9=?v,I.ok.above,assignEach,?l (Str × Value),AllBare,.bl b,∀(he:?lT:=by rfl),a,∀(hN:X.N.Nodup)(hi:?gD)(hx:?o9),a,.(by obtain⟨o',e1⟩:=I.base.there b o e hx),∀(hdb:?mK:=by decide),a,∀(k:∀b u,?kG),a,.(by intro Ac s σ H x y v u Q I rx ry h),∀{kindOf:Str->?bC NameKind}{x:Str},a,.(by have e:b=it:=?gW),∀(mg:?bH)(base:Heap),a,∀(hn:x≠"__name__":=by decide),a,∀(H':Hp) (i:?p0),a,∀{f:?qK},a,.(by rw[Al (Ap q hn)];exact q),∀(sp:Sp)(dvs:?q)(E:XK),a,∀{kw:?hO},a,∀(x:V)(y:V)(H:Hp)(Q:VK),a,∀(hc:?fQ),a,∀(g:Int->?iE),a,∀{b:Addr}{o:Obj},a,∀(ha:?rG),a,∀(r:?kT),a,∀(hr:F6 k X.A),a,?eK hq',Int->V,?l (?dB),mA ?R,(k:Int),I.tuple,.(nomatch e),qc1 hQ,?iI hq,(i==j),k b ob q,X.pn++Ac,.Assign,fun _ _=>False,I.turned,(f v u),if v<0 then(v+?b5).toNat else min v.toNat n,?J _ t,its.toList,?q->?aB,vs.toArray,?L->Sem ?L,?dV pos (?rX),P.zip vs,PySem.W.methodObj,X.fn x=true,fun h' eb=>⟨rfl,?xB (fun b o hb e=>eb b o hb e)⟩,((0:Nat):Int),a<h.objs.size,wpAny_Name,∀f,N1 (?gL f) (mA f),Nat->?z,?gL m=none,ws.toArray,putF f y fs,.(by simpa using h1),Hp->?xY VK,Heap.SameBut,?hN es ?f,Q () s',N σ' H',?bC Int,I.hok.fresh,GQ P w K mg ?a5 A ?x s H,{ cls:=?bF ?dO,data:=?eC #[?i lo t,?i hi u,?i 1 v] },k b o (fun z=>hc (by simp[z])) e,tn i ?o,?U a ?f,A.deeper,tb σ H1 Q,?dS ?T::us,Qk P w H h,?bF "tuple",u.keep,?i (lo+i),getMethod,sp vs H Q E,qa3.mp,∀b∈fp,P5 X Ac H b,pyIter,?U b ?f,Int->?xY Int,?eN=none,⟨v,H,I,r,h⟩,H a=none,X.s₀.heap.get? b=?v,Un.kept,I7.unpinned,[?aW,?i j],?U o ?f,X.env.cells.lookup,putF f v fs,swapsWith,(?fH ?jL).objs.size,I.step,?h3=?r->?eO=?r,(f,first),standAt,?U e env,h.objs.size<=a,?c (?mG),I.kept,?kI apos.atName,?hK C ?a8,fun u s1 _z=>?_,codeAny,fun b hb=>(hf b hb).1,Dd K C f,?F vs us,i<=xs.length,PySem.Within,PySem.W.plainGet,?q->?jD,PySem.W.emptyDict,AZ ?aT e,∀b xs,H b=?g2->H' b=?g2,(x=?aW),.ins C dx fs,fun b o e=>qa5 _ e,dx≠x,(hs.2 b (qc5 (qb3 ?dD (I.ok.cab x c hfn hc)))).trans,?aR P w H h a o,.UnaryOp,getAttr,?a3 x v,PA X es t,W.keepIn,(hs.2 b (qc5 (qb3 ?dD ?hM))).trans,vs[i]?=?a4,I.ok.mod.kin,?wM ?eB,Cls X.K C,It->?aB,h.Ns1 dx mA,Sem ?cF,Gl X x,I.base,fun p hp=>?_,?eK hq,qb6.mp,H1 a=?fE,H b=?r,?eA [ov] (?jW ov m pl),r.inj r',?sQ=?tY::?rX,W.isFn K ?V=true,p.isList,∀(hch:∀b∈ch,(b∈X.ex\/?vZ b)/\?cP/\?mH),a,.(by rw[show putF f v (?hE)=(if k=f then(k,v)::r else(k,x)::?oP) from rfl];by_cases hk:k=f),∀{g:TG}{tb:TS}{D:Ends}{σ:St}{H:Hp}(Pv:?j8)(h0:Pv 0 σ H),a,.(by obtain⟨σ',H',I,q⟩:=h;exact⟨σ',H',?n9,q⟩),.(by subst e;exact I1.fpOk ?bV (I1.hok.fresh ?bV)),.(by obtain⟨sl,e1⟩:=?x3 ?mZ hx),∀{K:W.Frag}{mg:?bH}{base:Heap},a,∀(e:H a=?fE)(c:?lG),a,.(by obtain⟨e,n,ne,nf,d⟩:=?oB),.(by exact ?vY hb Q),.(by obtain⟨od,J,hl⟩:=I.look),∀(σ:St)(H:Hp)(Q:?z),a,∀(ho:OpR X (?aM op) r),a,∀(hok:Qk ?X X.w H' h'),a,∀(prog:Program)(w:World),a,∀{prog:Program}{w:World},a,∀{mA:?bH},a,∀(i j:Int) (t u:Tok),a,∀vs H Q E,?jX->?qI,I.base.frzs,.frz o u,(?tO)/\∀p∈?iO,p.1≠b,Dd X.K C f,i=xs.length,(x==("__debug__":Str))=false,(?dR).kindOf,.(by simpa using hs),b ∉ X.ex,(us++ds).length=ps.length,(Q ?bJ H),∃t,u=Value.int i t,∀b ps,H b=?c (.tbl ps)->∃more,H' b=?c (.tbl (ps++more)),fun i h h' st k=>st.at fun o e=>k it ?P o e,iT r' tc σ Q y z H3,PySem.W.handedIn,Mod X.K X.mg ?bG,oU K R x H1,{ s with heap:=h',toks:=tk },?gL f=?a4,I.base.slot,(vs++ws).toArray,fs.length<1000,PySem.W.lookIn ?R od,FnScope N ps ?aY,fun b o e=>(e0.bs b o e).1,∃sl,?eO=?c { o with slots:=sl },⟨z,H3,I3,r3,k,e,q3⟩,ItFld K f Q x H1,u=Value.none,I.unwish,?cF->?aB,OS R vs H1,Dk ?eJ ?dT,?U (?w5 e args) ?f,∃o',?eO=?c o',?vX H ?fJ,?y (show false=true from hs) qd6,fs.length<=1000,OM Q x H1,sc.kind=?pS,seq_tuple_add,?hP s.gens,?bA o f pos',∀v,o.data≠.cell v,?x1 e te,k a _ ?fM e,?t5 a=?v,attributeBase,?vR (?jO) (?xT (?xZ ?iS Q)),I.ok.bsz,h.objs.size,HP X Ac σ Q s',Nat->?s9,F6 (k+1) X.A,UnaryOp_,OV t u vs σ H Q,Dy X.K H a xs,X.s₀.heap.FunFrames,s.heap.Ns ?gI m,A.handled=none,Mk X.K C f,(?bY,?k1),Bk X Ac σ H' { s with heap:=h',gens:=g',drawn:=d',toks:=t' },?tI=?fA b,?l Key × Addr × Value,XQ ?p8 x,?rH=?fN b,?cY p hp,?p6/\o.data=.seq its n/\its.size<=sizeLine/\?F xs ?iV,PG X ?gH (y6 i),?xM (f ?hH (?i j u)),?F dvs ds,.(by rw[Al (hm b _ q fun z=>z)];exact q),OT R vs H1,I.pins_of,Paired.mapP,?p3 ?T scope.names [],fun x c e=>?_,Bk X Ac σ' H' s',(n,v)::r,H1 p=none,putF f v r,I.stkSub,I.ok.exfs,.(by simp[putF]),∃t,u=Value.bytes b t,PS X (?iP [?qV] e pos) (PL te (y6 i)),gP ?o x dx C mA,Bk (X.wish E) Ac σ H s,[v,ov,iv],z.sameBut hs (cne y c e),?xU (tCB r t),?vX H' s',J.stop i H,op≠.NotIn,cellsFrom,?vX H ?fY,⟨_,?gP,rfl,rfl⟩,o.dict=none,fun x H' y=>?_,X.env.scope,op≠.In,?bU ?c e,qo7 (pl:=pl) (Dk ?cJ ?kP) ht,fun v hv=>(qi2.mp nd).1 (qp8 hv).1,sc.isGenerator=false,V.ref ?T,fun h' st' sb=>?_,u σ H1 Q,?x1 ?gH (tC v),?f7 UInt8,I7.pin ?fR (qg1 _ (qg1 _ (M4 hb e))),∀b∈fp,?t7,⟨_,ho2,rfl⟩,.(by simpa using I.len),UJ K R x H1,J.go i H,es.toList.any,fun σ2 H2=>tb { D with nx:=?g1,ct:=?g1,bk:=D.nx } σ2 H2,Int->?cF,.function,⟨?g3,?g3,?cE,?qU,?r5,?mF,?pV⟩,ItB Q x H1,I.base.tbls,(mixKind prog w).is,t D σ H,X.prog=P,SqL X.K H a xs,i<vs.length,fun w hw=>h w (qc7 _ hw),{ s with heap:=?s0 },j<1073741824,(g==k)=false,?wM ?bO\/?lF,(X.wish E).Ok,X.H₀ b=none,UE K f D σ y x H2,wpAny_isTrue_Compare1,?b6/\?A,uE tb σ Q x H1,?vX H' s2,oO tb σ Q x H1,?jP (?dR),⟨ok.mod,ok.kind,ok.glob,ok.blt,ok.above,ok.inj,ok.has,ok.cab,ok.hd,ok.frames,ok.stk,ok.exf,ok.bs,ok.bsz,ok.noex,ok.exfs,ok.funs,ok.frf⟩,hb wh Ac s1 σ H1 Q I1 q1,Q (?i ?bJ s.toks) ?cA->?oE,vs.length=ps.length,(?bL id),?L->?iY,⟨σ,H,I,h⟩,.bl (!c),.(by have:=r.un;omega),?cO p.1=?c p.2/\H p.1=none/\p.1≠X.env.locals/\p.1 ∉ X.fs/\∀v,p.2.data≠.cell v,Bk X Ac (σ.set i ?dY) H s',fun j y v' e1 e2 e3=>?_,o.cls=?jT,Mut (H x),(a==sysModules)=false,fun b o e hx=>?_,?bT x pos',(g==k)=true,concat_meets,Int->?r2,⟨us,[]⟩,EP X Ac σ Q u s',PySem.W.takerIn,Int->Int,.bl true,σ[i]?=?c ?dY,I.base.tups,CE ?x P w H s Q u s',s'.os=s.os,Calls.Name_function_global,D.nx σ H1,xs.length<=i,e0.hok.fresh,κ × Value,(?bY,?jO),uK K n t v σ H Q,I1.laid (t':=s1.toks) (fun b u e=>qa5 _ e) ?bV ?_,?x1 a ta,(?fN a:Key),fun z=>(hch c z).2.2.1 x c e rfl,∀b o u,H b=?kL->H' b=?kL,[s1.heap.objs.size],?K (x=y),⟨_,?gP,rfl,rfl,_,rfl⟩,h.ok ?aT,PySem.W.cellsFrom_some,∃t,u=Value.float b t,fun b z=>?y z (noA b),[op,op'],PySem.W.plainOver K C=true,?x1 o ta,IsRangeIter,noFill_tuple_add,?l Key × V,?bD es ?f,R x y H2,PySem.W.hasDictIn K C=true,(?dK).push (?kO),fun r s4 _z=>?_,∀name,?n2=?c (?iG),oN C m sp dvs E t σ Q x H1,⟨_,ho,rfl⟩,xs.length,(qr2 _ _),UD i σ H Q,s.heap.objs.size<=a,?xY Heap,PG X tg g,⟨y,H2,I2,r2,q2⟩,?wW ?R,{ s with heap:=?fH ?jL,toks:=tk },Nat->?aB,Rq CX X E,b∈X.fs,?bF "list",(qn9.mp hp).elim,?vT cd,(?m ?a8),sc.names,.(by have:=r.dp;omega),fun z=>(hch _ z).2.1 rfl,e=x\/H e=?c (.own x),kvs.length<=sizeLine,?bD ?a1 ?f,∀x∈P,?q5,.(by subst z;rw[r]at mu;exact mu),IrU g x H Q,.(by rintro rfl;exact h v qe4),(?xP ?bJ),isTrue e ?f whole,?hP s'.gens,T9 f y fs,∃o,?hL,(sb.2 b hb).trans,I1.kept (t':=s1.toks) ?l3,hd σ H p,ob.slots,∀y∈sc.names,y.2≠.free,K.lookup,PS X st t,P5 X Ac H' b,⟨rfl,rfl⟩,?dX a o hk,Ai3 g x y H Q,qc7 _ hb,⟨?i ?bJ,H,?dJ,?b8,q⟩,fun c H1=>Q (!c) H1,A.depth+1,?cO b=?r->?eO=?r,PT X c tc,OL Q x H',(?fA a:Key),∃t,u=Value.str x t,∃u,?eF e=?r,sc.isCoroutine=false,rv.get hx,Vis ?p8 x,?xK b,{ D with nx:=N,ct:=N,bk:=D.nx },?w3 M (storeName ?f x u),fun h' tk k=>⟨_,H,?kM k,?_,q⟩,(?kC).map,(0:Int)<j,(show False from r).elim,H dx=?gZ,lo+?j4*1,OJ X.K C m g,(?bY,?cT),Mi X.K fd ps ds,.ins C ?a8 [],W m σ H,F6 (k+1) A,IrI C g x y H Q,PySem.W.makesIn K C=true,scal x y=true,k b u (hb b n) q,Addr × Obj,I.ok.frf,"type.__call__",IQ X body tb,?xM (?U ?gH ?f),P[i]?=?cX,.(by refine ?wD ⟨xs,xs[i],q,by simp[hlt]⟩ xs.length;obtain⟨e,y⟩:=y;subst e;exact hs i x σ _ (y xs q) p),.(by refine⟨fun i m σ H=>m=xs.length-i/\?kU/\?cD,⟨?s5,?aA,qa8 _,h0⟩,?_⟩;rintro i m σ H ⟨rfl,hi,p⟩;have q:=hl i σ H hi p;by_cases hlt:i<xs.length),.(by refine ?pB;obtain⟨x,H1,I1,rx,a,dx,fs,ex,ea,l,q⟩:=_z;subst ex;obtain rfl:?dU:=rx;refine Rh I1 ea c hm l ?_),.(by have I1:?p4:=?xB (fun b o hb e=>?t0 e);obtain⟨o,e,c,d⟩:=id st'),∀(hs:∀i x σ H,?cH->?cD->g x σ H ?pQ) (hd:∀σ H,Pv ?s5 σ H->?bZ),a,.(by first | rfl | simp[Around.under,Code.weight,Code.isCreation,Code.isGuard,Code.isCaller,Code.frames,Code.isFrame,guardIds]),.(by refine Dk (?vY hb _) fun u s2 _z=>?_;obtain⟨y,H2,I2,r2,q2⟩:=_z;exact hf v u s2 x y H2 I2 r1 r2 q2),.(by rw[e]at e';cases e';rw[d]at d';injection d' with d1 _;have:its=its':=by simpa using ?bU Array.toList d1),.(by intro Ac s σ H xs us Q I r h;obtain⟨i,j,rfl,q⟩:=h;obtain⟨u,w',rfl,⟨t,rfl⟩,⟨t',rfl⟩⟩:=CD r),∀(mu:?qS)(he:?sO)(k:∀b u,b≠e->?kG)(YI:?tK),a,∀(hf:∀v u s2 x y H2,?vX H2 s2->?l9->?h0->?rY->?d ?g X.A ?iS Q ?h s2),a,.(by obtain⟨σ3,H3,I3,n3⟩:=q3;obtain⟨m',hm,w3⟩:=hN σ3 H3 n3;exact⟨m',hm,σ3,H3,I3,w3⟩),.(by rw[qk4 (?fF hj)]at e2;obtain⟨u',r',q⟩:=hl j y v' e1 e2 e3;refine⟨u',r',?_⟩),.(by obtain⟨o',es',XE,ho',r'⟩:=hm;rw[ho]at ho';cases ho';exact⟨_,es',XE,hL,r'⟩),.(by have e2:(op==CmpOp.NotIn)=false:=?wQ h2),.(by have e1:(op==CmpOp.In)=false:=?wQ h),.(by subst e;obtain⟨o,e,c,d⟩:=st;exact⟨o,e,fun v z=>by rw[d]at z;cases z⟩),.(by intro Ac s σ H R I h;refine Dk (?w8 hl h) ?dT),∀(X:?e0)(I:?oV)(hg:?kW K C ?R=true),a,∀(hs:?kD e (?c (?qV)) ?g9 ?f=?fS:=by rfl),a,.(by obtain⟨d,rfl,q⟩:=q1;cases r1;exact qj3 ⟨H1,I1,q⟩),.(by subst hj;rw[hi]at e1;cases e1;rw[qo4 hiσ]at e2;cases e2),.(by have hf:H1 ?bN=none:=I1.hok.fresh ?bV),.(by cases y<;>exact ?nG),.(by rcases Dp hv with⟨j,u,rfl,rfl⟩|⟨y,u,rfl,rfl⟩),∀(hi:?gD:=by rfl)(hx:?o9:=by ac_rfl),a,.(by subst e;exact ?j ⟨⟨xs,q,?fK⟩,?t2⟩),.(by obtain⟨a,e,⟨xs,hq⟩,q⟩:=q1;subst e;cases r1),∀{pl:?lJ}(he:?rT)(c:?lG)(hm:OJ X.K C m f),a,∀{ta:TA}{p pos:Pos}(hg:Gl X ?dO)(hm:X.mg ?dO=none),a,∀{P:?H}{vs:?u}{i:Nat}{m:?bH},a,.(by rcases Dp hb with⟨j,u,rfl,e⟩|⟨y,u,rfl,e⟩),∀(hg:?lK)(hm:?k3)(hv:?h9=?r),a,.(by obtain⟨σ7,H7,I7,n7⟩:=q7;exact again I7 n7),.(by refine ?nC),∀{g':?f7 GenState}{t':Nat}{d':Drawn}{ch:?B},a,∀{h:Heap}{a:Addr}{items:?bM}(x:Ll h a ?eD),a,.(by have e:b=s1.heap.objs.size:=?gW),∀{pl:?lJ}{Q:Value × ?u->?cG},a,.(by obtain⟨m,⟨o,es,ep,ho,r⟩,_⟩:=id ?dZ),∀(h:ta σ H fun x H1=>tb σ H1 fun y H2=>?rY),a,∀(k:∀b u,?tF),a,∀(hp:PassesOwn ?g X.A ?f ?h),a,∀{binds:?hO}{m:?bH},a,∀{X:Cx}{CX:oW}{k:Nat}{f C:Addr}{fd:FuncData},a,∀(σ':St) (H':Hp) (i:?oM),a,∀(hh:?rZ),a,∀{X:Cx}{a b c:Expr}{ta tb tc:TE},a,∀(hm:?hG),a,∀{l:Expr}{tl:TE}(hl:?x1 l tl),a,@(?d ?g X.A ?a ?b ?h s),@(["enumerate","zip","dict_itemiterator","dict_reverseitemiterator","odict_iterator","itertools.zip_longest","itertools.pairwise"].contains ?a),@(GG CX P w K mg ?a5 N ?aS ?aY f ?a A ?x s H E),@(fun σ H Q=>?a σ H fun x H1=>?b),@(qq4 (h₀:=X.base) ?lE ?a (Dk (ha pos Ac s σ H _ I h) fun us s1 ⟨vs,H1,I1,r,q⟩=>⟨I1.kIn,?_⟩) he hpl),@(?a (Dk (ha pos Ac s σ H _ I h) fun us s1 ⟨vs,H1,I1,r1,q1⟩=>hc Ac s1 σ H1 vs us Q I1 r1 q1) he hpl),@(Bk X Ac σ ?a ?b),@(?a Ac s1 σ H1 ?b I1 q1),@(X.s₀.heap.objs.size<=?a),@(?a (Dk (h pos Ac s σ H _ I hq) fun us s1 ⟨xs,H1,I1,r,z,q⟩=>⟨by rw[←r.length];exact z,?_⟩)),@((?a).go i H/\∃N:?z,?fP/\∀x H',(?b).yld i H x H'->?gV),@(IE (s:=?fY) e c d ?eS ⟨x,H,I1,ru,⟨rfl,fun ys hy=>by rw[?a hy hq];exact hx⟩,st',?kR⟩),@(?d ?a A ?b Q E s),@(sp (?m x::?bS) (upd (upd ?a dx (.own x)) x (.ins C dx [])) (fun v H2=>v=?w/\Q ?cK H2) E),@(?a6 (?bA ?a m apos) ?b [] pos),@(?a fun _ _ _ _ _ _ _ q=>?b q),@(XM ha hb I h fun v u s2 x y H2 I2 rx ry q=>ho Ac s2 σ H2 x y v ?a Q I2 rx ry q),@(?a Ac s σ H _ I ?b),@(OpR X ?a (vE fun i j=>.bl ?b)),@(?a6 (?bT ?a p) ?b [] pos),@(?gC pos f first (?dV pos ?a) ?gK),@(?bB ?a ?S "__setattr__"=?c (?c (?bL "object.__setattr__"))),@(?G ⟨?a,?g1,fun σ' H' p'=>⟨?b-?e1,O9m,rfl,hlt,p'⟩,?p7⟩),@(St->Hp->(?a)->Prop),@(?c { cls:=.none,data:=?eC ?a }),@(∀[?vK],(∀v,(x,v) ∉ binds)->?a ?a2 binds m x=m x),@(?a (i:=i) (qi2.mp nd).2 (?jC) (by simpa using h2) hk),@(W.fnOf ?R ?aS params body ?aY dV kV doc pm an Ds ?a),@(fun _ _ _ H _ I h=>?a ?b),@(E8 X (?bL ?a) (fun xs H Q=>∃i j,xs=?k9/\Q (?i ?b) H)),@(?a (Ck I q (?bU not ?b))),@(sc.names.lookup x=?a),@(fun _ _ _ _ _ st h=>?a st h),@(show ?a from r),@(PE X (?gR ?a j pos) (tC (?b))),@(by cases op<;>first | rfl | exact ?y rfl ?a),@(by rw[I.ok.glob];exact I.mod.glob.keeps ?a),@(?a X (?h1 a [op] [b] pos) ?b),@(⟨?bN,?rK,_,_,H1,rfl,?t1,?a a _,?p5,?dW,q⟩),@(fun b ps q=>⟨#[],by rw[Al ?a,q];simp⟩),@(NP X Ac ?a s'),@(?bB K ?S ?a),@(?a c o (I.cne x c e) hc aV ho (?aN x c e)),@(fun σ H Q=>t σ H fun xs H1=>?a Q xs H1),@(V2 P w K tg (?a) [it] it (fun i h=>?b it a i)),@(Un fs ex H ?a h ?b),@(PE X ?a ?b),@(?y (qb3 ?a ?b) ?eL),@(?a b o e n hb ?b),@(⟨?m ?bN,upd H1 ?bN ?a,?rF,rfl,q _ hf⟩),@(∀[?c8][?M] (n:Nat),?b9->?F (?a n) (?b n)),@(ho Ac s2 σ H2 x y v u ?a I2 r1 r2 q2),@(fun b u q n _=>by rw[Al ?a];exact n),@(show ?a a ?bP from p),@(PW X (?Y .And ?a pos) ?b),@(A.under (?bL ?u9 ⟨?hI::?a,kw⟩)),@(?iR (t':=s.toks) ?a f0 f1 f3 f4 f5),@(⟨(hs.2 p.1 ?a).trans e,n,ne,nf,d⟩),@(fun σ H R=>ta σ H fun vs H1=>?a),@(fun i H x H'=>H'=H/\∀xs,?a->?cH),@(∀p,?oO->Q (?m p) (upd H1 p ?a)),@(fun σ H R=>tl σ H fun x H1=>?a),@(PW X (?Y .Or ?a pos) ?b),@((?aT b ?a e).stay ?b (fun _ q=>q) ?e9),@(⟨?a,H1,I1,rfl,q1⟩),@(∀x c,?aV->c≠?a),@(qs4 (Iy ?a hg hm hv ?_ hn hdb)),@(?d ?g X.A ?a Q E s),@((bC h H).get? b=?a),@((?a).stop i H/\?bZ),@(fun i j=>?i ?a),@(?a ?a2 ?gA m ?b=_),@(∀[?C] (D:Ends),?p->?pX->?vR (?a st ?f) (SP X Ac D)),@(?p->?eP->?vR ?a (?b X Ac σ Q)),@(fun v s₁=>?d ?g X.A (?k1) ?a ?h s₁),@(PE X (?wA x ?a1) ?a),@(PE X (?w5 o ?a) (GX C m sp dvs E ta ?b)),@(?a st ?b (x:=u) (by simpa using hu) ?pF),@(fun b o _ hb _ e n=>?x3 ?a ?P),@(?a->Prop),@(fun u s₂=>?d ?g X.A ?a ?b ?h s₂)])
theorem O9m{p:Prop}(h:p:=by omega):p:=h
def qa0:=@List.getElem?_eq_getElem
def qa1:=@Nat.le_refl
def qa2:=@List.length_map
def qa3:=@List.getElem?_eq_some_iff
def qa4:=@List.getD_eq_getElem?_getD
def qa5:=@PySem.Heap.get?_push_of_some
def qa6:=@Nat.le_trans
def qa7:=@PySem.wpAny_bind
def qa8:=@Nat.zero_le
def qa9:=@List.getElem?_map
def qb0:=@Int.natAbs_mul
def qb1:=@List.map_append
def qb2:=@PySem.Heap.lt_size
def qb3:=@Nat.lt_of_lt_of_le
def qb4:=@Nat.mul_le_mul_right
def qb5:=@Nat.lt_of_le_of_lt
def qb6:=@List.mem_cons
def qb7:=@PySem.Heap.get?_push_size
def qb8:=@List.size_toArray
def qb9:=@PySem.PassesOwn.never
def qc0:=@List.length_append
def qc1:=@PySem.wpAny_pure
def qc2:=@Int.natAbs_neg
def qc3:=@Bool.and_eq_true
def qc4:=@List.length_take
def qc5:=@Nat.ne_of_lt
def qc6:=@List.mem_of_getElem?
def qc7:=@List.mem_cons_of_mem
def qc8:=@List.length_cons
def qc9:=@PySem.F.plainAttrs_list
def qd0:=@Int.one_mul
def qd1:=@List.getElem?_append_left
def qd2:=@of_decide_eq_true
def qd3:=@Option.some.inj
def qd4:=@Nat.le_of_lt
def qd5:=@List.map_cons
def qd6:=@Bool.false_ne_true
def qd7:=@Nat.pow_add
def qd8:=@List.mem_range
def qd9:=@List.take_length
def qe0:=@List.getElem?_append_right
def qe1:=@Int.mul_assoc
def qe2:=@Int.mul_zero
def qe3:=@Nat.mul_le_mul_left
def qe4:=@List.mem_cons_self
def qe5:=@Nat.pow_le_pow_right
def qe6:=@Nat.le_add_right
def qe7:=@List.not_mem_nil
def qe8:=@List.getElem_mem
def qe9:=@List.all_eq_true
def qf0:=@Nat.mul_le_mul
def qf1:=@PyProof.Rows.callWith_type1
def qf2:=@Int.natAbs_add_le
def qf3:=@Nat.one_mul
def qf4:=@Nat.add_mul
def qf5:=@Int.toNat_natCast
def qf6:=@PySem.F.type_list_append
def qf7:=@PySem.F.slot_list_append
def qf8:=@List.mem_map
def qf9:=@Int.mul_comm
def qg0:=@List.take_succ
def qg1:=@List.mem_append_right
def qg2:=@Decidable.byContradiction
def qg3:=@decide_eq_true
def qg4:=@Nat.pow_succ
def qg5:=@Nat.lt_or_ge
def qg6:=@List.length_filter_le
def qg7:=@List.getElem?_eq_none
def qg8:=@Int.fdiv_eq_ediv_of_nonneg
def qg9:=@Nat.le_of_not_lt
def qh0:=@PySem.wpAny_field
def qh1:=@PySem.boot_len
def qh2:=@Int.natAbs_ediv_le_natAbs
def qh3:=@Nat.pow_lt_pow_right
def qh4:=@List.filter_append
def qh5:=@List.getElem_of_mem
def qh6:=@Int.zero_mul
def qh7:=@Nat.le_mul_of_pos_right
def qh8:=@List.getElem?_of_mem
def qh9:=@PySem.wpAny_setField_rec
def qi0:=@PySem.Heap.size_push
def qi1:=@PySem.W.mg_none_of
def qi2:=@List.nodup_cons
def qi3:=@List.length_set
def qi4:=@Nat.succ_le_succ
def qi5:=@List.length_drop
def qi6:=@List.length_eraseIdx_of_lt
def qi7:=@List.replicate_succ
def qi8:=@List.length_range
def qi9:=@decide_eq_false
def qj0:=@Nat.sub_self
def qj1:=@Nat.le_antisymm
def qj2:=@Int.mul_le_mul_of_nonneg_right
def qj3:=@PySem.wpAny_truthy_bool
def qj4:=@Int.mul_ediv_cancel_left
def qj5:=@Nat.lt_of_not_le
def qj6:=@List.filter_cons
def qj7:=@Int.mul_nonneg
def qj8:=@beq_eq_false_iff_ne
def qj9:=@Option.map_eq_some_iff
def qk0:=@Nat.one_le_two_pow
def qk1:=@Nat.ne_of_gt
def qk2:=@List.length_replicate
def qk3:=@PySem.wpAny_call_entry
def qk4:=@List.getElem?_set_ne
def qk5:=@Nat.lt_trichotomy
def qk6:=@List.range_succ
def qk7:=@List.mem_filter
def qk8:=@List.length_nil
def qk9:=@List.flatten_cons
def ql0:=@Nat.le_of_eq
def ql1:=@List.map_map
def ql2:=@List.getElem?_range
def ql3:=@Int.mul_one
def ql4:=@Int.le_of_dvd
def ql5:=@PySem.wpAny_newObj_type
def ql6:=@Int.mul_le_mul_of_nonneg_left
def ql7:=@Nat.le_mul_of_pos_left
def ql8:=@List.take_of_length_le
def ql9:=@List.getElem?_take
def qm0:=@Bool.eq_iff_iff
def qm1:=@PySem.wpAny_seqItems
def qm2:=@List.any_cons
def qm3:=@PySem.wpAny_pyIter_tuple
def qm4:=@PySem.Calls.spliced_cons
def qm5:=@List.mem_append_left
def qm6:=@PySem.wpAny_passesOwn
def qm7:=@List.mem_or_eq_of_mem_set
def qm8:=@List.any_eq_true
def qm9:=@PySem.mem_of_lookup
def qn0:=@Nat.le_succ
def qn1:=@List.mem_map_of_mem
def qn2:=@Int.neg_neg
def qn3:=@Int.neg_mul
def qn4:=@Int.add_zero
def qn5:=@PySem.F.slot_tuple_iterator_next
def qn6:=@PySem.W.kia_one
def qn7:=@Nat.lt_irrefl
def qn8:=@List.nil_append
def qn9:=@List.mem_append
def qo0:=@List.find?_cons
def qo1:=@List.filter_nil
def qo2:=@Int.mul_eq_zero
def qo3:=@PySem.wpAny_mono
def qo4:=@List.getElem?_set_self
def qo5:=@decide_eq_true_eq
def qo6:=@List.ext_getElem?
def qo7:=@PySem.W.methodCall_KW
def qo8:=@Nat.zero_add
def qo9:=@Int.zero_add
def qp0:=@Nat.mul_lt_mul''
def qp1:=@List.take_append_of_le_length
def qp2:=@List.lookup_cons
def qp3:=@List.mem_of_mem_take
def qp4:=@PySem.Calls.callWith_builtin
def qp5:=@List.map_take
def qp6:=@List.map_drop
def qp7:=@Nat.lt_two_pow_self
def qp8:=@List.of_mem_zip
def qp9:=@List.append_nil
def qq0:=@PySem.F.slot_enumerate_next
def qq1:=@Bool.or_eq_true
def qq2:=@Nat.mul_lt_mul_of_pos_left
def qq3:=@Nat.le_of_mul_le_mul_right
def qq4:=@PySem.W.callWith_K
def qq5:=@List.mem_singleton
def qq6:=@Int.emod_lt_of_pos
def qq7:=@Bool.false_eq_true
def qq8:=@PySem.wpAny_holding
def qq9:=@Nat.le_of_mul_le_mul_left
def qr0:=@PySem.F.type_list_insert
def qr1:=@PySem.F.slot_list_insert
def qr2:=@PySem.F.args_tuple_add_2
def qr3:=@List.take_add_one
def qr4:=@List.getElem?_set
def qr5:=@List.foldl_append
def qr6:=@Int.not_lt
def qr7:=@Int.dvd_mul_of_dvd_right
def qr8:=@PySem.F.plainAttrs_dict
def qr9:=@PySem.F.entry_tuple_add
def qs0:=@Nat.add_assoc
def qs1:=@List.getElem?_replicate
def qs2:=@List.getElem?_cons_zero
def qs3:=@Int.eq_ofNat_of_zero_le
def qs4:=@PySem.wpAny_Call_Name_kw
def qs5:=@Nat.succ_ne_self
def qs6:=@PySem.F.slot_tuple_add
def qs7:=@List.filter_eq_nil_iff
def qs8:=@Int.fmod_nonneg_of_pos
def qs9:=@PySem.wpAny_pyIter_list
def qt0:=@PySem.wpAny_pyIter_enum
def qt1:=@PySem.F.slot_dict_pop
def qt2:=@PySem.F.slot_dict_get
def qt3:=@Nat.min_self
def qt4:=@Nat.lt_trans
def qt5:=@List.map_nil
def qt6:=@List.length_singleton
def qt7:=@Int.natAbs_dvd_natAbs
def qt8:=@Int.le_trans
def qt9:=@PySem.Calls.spliced_nil
def qu0:=@PySem.W.mg_of
def qu1:=@List.replicate_succ'
def qu2:=@PySem.wpAny_pyIter_zip
def qu3:=@PySem.W.plainGet_of
def qu4:=@PySem.F.slot_dict_itemiterator_iter
def qu5:=@Nat.add_le_add_left
def qu6:=@List.map_congr_left
def qu7:=@List.filter_sublist
def qu8:=@List.filterMap_cons
def qu9:=@Array.length_toList
def qv0:=@PySem.wpAny_execs_nil
def qv1:=@List.mem_replicate
def qv2:=@List.getElem?_drop
def qv3:=@Int.fmod_lt_of_pos
def qv4:=@Int.dvd_trans
def qv5:=@PySem.F.slot_zip_next
def qv6:=@beq_iff_eq
def qv7:=@PyProof.Rows.slot_tuple_getitem
def qv8:=@List.nodup_append
def qv9:=@List.filter_congr
def qw0:=@List.append_assoc
def qw1:=@PySem.Calls.evalArgs_plain
def qw2:=@Nat.sub_zero
def qw3:=@Nat.pow_zero
def qw4:=@Nat.add_comm
open PySem in
noncomputable abbrev Ar:=?l (?l Int)
open PySem in
noncomputable abbrev Bg:=?l (?u7)
open PySem in
noncomputable abbrev Qo:=?f7 (?dI)
open PySem in
noncomputable abbrev OAddr:=?bC Addr
namespace L2
open PySem PySem.Spec PyProof.Rows
noncomputable abbrev Key:=Sum Int Str
def v5:Key->?L->?cF
 | ?j k,v=>Value.isInt k v
 | ?cZ,v=>Value.isStrOf x v
def Au5(w:World):Key->Int
 | ?j k=>hashInt k
 | ?cZ=>hashStr w x
theorem Dp:∀{k:Key}{v:Value},v5 k v=true->(∃i t,k=?fA i/\v=Value.int i t)\/(∃x t,k=?fN x/\v=Value.str x t)
 | ?g0,v,h=>by
   obtain⟨t,e⟩:=Value.isInt_shape (k:=i) (v:=v) h;exact ?j ⟨i,t,rfl,e⟩
 | ?cZ,v,h=>by
   obtain⟨t,e⟩:=Value.isStrOf_shape (x:=x) (v:=v) h;exact ?G ⟨x,t,rfl,e⟩
theorem JW(i:Int)(t:Tok):v5 (?g0) ?hH=true:=by simp[v5,Value.isInt]
theorem jW(x:Str)(t:Tok):v5 (?cZ) (.str x t)=true:=by simp[v5,Value.isStrOf]
theorem wG(a b:Int):?K (?o7)=(a==b):=by
 by_cases e:a=b
 . subst e;simp
 . have h:¬?o7:=fun q=>e (Sum.inl.inj q);rw[qi9 h];exact(qj8.mpr e).symm
theorem wD(a b:Str):?K (?oA)=?K (a=b):=by
 by_cases e:a=b
 . subst e;simp
 . have h:¬?oA:=fun q=>e (Sum.inr.inj q);rw[qi9 h,qi9 e]
theorem WE(a:Int)(b:Str):?K (?tI=?fN b)=false:=qi9 (fun q=>nomatch q)
theorem WD(a:Str)(b:Int):?K (?rH=?fA b)=false:=qi9 (fun q=>nomatch q)
def mixKind[?mA]:PySem.KeyKind prog w Key where
 is:=v5
 hash:=Au5 w
 inj:=fun v a b ha hb=>by
  rcases Dp ha with⟨i,t,rfl,rfl⟩|⟨x,t,rfl,rfl⟩
  . ext v8
    . injection e with e1 _;rw[e1]
    . exact ?iJ
  . ext v8
    . exact ?iJ
    . injection e with e1 _;rw[e1]
 byValue:=fun k v h=>by
  rcases Dp h with⟨i,t,rfl,rfl⟩|⟨x,t,rfl,rfl⟩<;>rfl
 pyHash:=fun hv h=>by
  rcases Dp hv with⟨i,t,rfl,rfl⟩|⟨x,t,rfl,rfl⟩
  . exact wpAny_pyHash_int h
  . exact wpAny_pyHash_str h
 eqBool:=fun hu hv h=>by
  rcases Dp hu with⟨i,t,rfl,rfl⟩|⟨x,t,rfl,rfl⟩
  . ext v1
    . rw[wG]at h;exact wpAny_eqBool_int h
    . rw[WE]at h;exact SeqAt.EqAt.int_str i t y u _ _ _ _ h
  . ext v1
    . rw[WD]at h;exact SeqAt.EqAt.str_int x t j u _ _ _ _ h
    . rw[wD]at h;exact wpAny_eqBool_str h
 «strs»:=fun k x t v h=>by
  rcases Dp h with⟨i,u,rfl,e⟩|⟨y,u,rfl,e⟩
  . exact ?iJ
  . injection e with e1 _;subst e1;cases v<;>rfl
theorem DK[?mA](i:Int)(t:Tok):?pW (?g0) ?hH=true:=JW i t
theorem DJ[?mA](x:Str)(t:Tok):?pW (?cZ) (.str x t)=true:=jW x t
inductive V where
 | non | bl (b:Bool) | int (i:Int) | str (x:Str) | byt (b:?pI) | flt (b:UInt64) | ref [?aI] | ty (n:String)
 deriving DecidableEq
noncomputable abbrev rS[?aI]:?dB:=?c ?dP
noncomputable abbrev iS(i:Int):?dB:=?c (?aW)
def RelV:V->?xY ?L
 | ?w,u=>?n8
 | ?hQ,u=>u=Value.bool b
 | ?aW,u=>?mQ
 | ?cU,u=>?tJ
 | .byt b,u=>?oT
 | .flt b,u=>?rP
 | ?aU,u=>?dU
 | .ty n,u=>u=Value.type n
noncomputable abbrev Vals:?q->?xY ?u:=?eT ?a3
theorem Vals.length[?c8][?M](r:?b9):xs.length=us.length:=Paired.length r
theorem Vals.get:∀[?c8][?M]{i:Nat}{x:V},?b9->?cH->∃u,us[i]?=?r/\?bR
 | _,_,_,_,?E,e=>by simp at e
 | _,_,0,_,?J r _,e=>by simp at e;subst e;exact⟨_,rfl,r⟩
 | _,_,i+1,x,?iU,e=>by
   obtain⟨u,h1,h2⟩:=Vals.get (i:=i) (x:=x) t (by simpa using e);exact⟨u,?jC,h2⟩
theorem Vals.set{x:V}[?O](r:?bR):∀[?c8][?M] (i:Nat),?b9->?F (xs.set i x) (us.set i u)
 | _,_,_,?E=>?E
 | _,_,0,?iU=>?e8
 | _,_,i+1,?J q t=>?J q (Vals.set r i t)
theorem Vals.append:∀{xs ys:?q}{us ws:?u},?b9->?F ys ws->?F (xs++ys) (us++ws)
 | _,_,_,_,?E,s=>s
 | _,_,_,_,?e8,s=>?J r (Vals.append t s)
theorem Vals.take:?x5 xs.take us.take
 | _,_,0,_=>?E
 | _,_,_+1,?E=>?E
 | _,_,n+1,?e8=>?J r (Vals.take n t)
theorem Vals.drop:?x5 xs.drop us.drop
 | _,_,0,r=>r
 | _,_,_+1,?E=>?E
 | _,_,n+1,?iU=>Vals.drop n t
def N1:?dB->?xY ?dI
 | ?a4,?r=>?aQ
 | none,none=>True
 | _,_=>False
def KV{κ:Type}:?l (κ × V)->?l (?rC)->Prop:=?eT fun(p:κ × V) (q:?rC)=>p.1=q.1/\?a3 p.2 q.2
def kV:Key->V
 | ?g0=>?aW
 | ?cZ=>?cU
inductive HO where
 | lst [?c7]
 | tup [?c7]
 | dK (kvs:?l (Key × V)) | dT (kvs:?l (?rW))
 | set (S:?pR) (n:Nat)
 | ins (C dx:Addr) (fs:?aP)
 | own (x:Addr)
 | xd (fs:?aP)
 | met (f x:Addr)
 | rng (lo hi:Int)
 | frz (o:Obj) (u:HO)
 | tbl (ps:?bM)
 | ext (φ:?s9)
noncomputable abbrev Hp:=Addr->?bC HO
def upd(H:Hp)[?aI](o:HO):Hp:=fun b=>if b=a then ?v else H b
theorem Ab{H:Hp}[?b3]{o:HO}:upd H a o a=?v:=by unfold upd;rw[?aO rfl]
theorem Al{H:Hp}{a b:Addr}{o:HO}(h:b≠a):upd H a o b=H b:=by unfold upd;rw[?D h]
theorem Ep{H:Hp}{a b:Addr}{o u:HO}(h:?h5)(h':?lQ)(d:o≠u):a≠b:=by
 intro e;subst e;rw[h]at h';exact d (qd3 h')
theorem Ap{H:Hp}{a b:Addr}{o:HO}(h:?h5)(h':?A):a≠b:=by
 intro e;subst e;rw[h]at h';cases h'
def Ll[?aJ][?aI](items:?bM):Prop:=∃o,?hL/\?qR/\?p6/\∃n,o.data=.seq ?eD n
theorem Ll.tup[?vD]:?g5 h a ?eD:=let ⟨o,e,c,_,d⟩:=x;⟨o,e,c,d⟩
theorem Ll.lt[?vD]:?j5:=x.tup.lt
theorem Ll.new[?aJ](items:?bM):Ll (h.push { cls:=?jT,data:=.seq ?eD }) ?nU ?eD:=?rM
section
variable[?c3]
def ObjOk(H:Hp)[?aJ][?aI]:?xY HO
 | .lst xs=>?cM/\∃(its:?u) (n:Nat),?hD/\?a9=?c { cls:=?sH,data:=.seq ?bP n }
 | .tup xs=>?cM/\∃its:?u,?hD/\Ll h a ?bP
 | .dK kvs=>?sP/\?qT/\∃vs,KV kvs vs/\h.DictOf (mixKind P w) a vs
 | .dT kvs=>?sP/\?qT/\∃xs:?l (?o8),
    ?eT (fun(p:?rW) (q:?o8)=>p.1=q.1/\H q.2.1=?c (.tup (p.1.map kV))/\?a3 p.2 q.2.2) kvs xs ∧
    ∃o es ep,?hL/\o.ExactDict/\o.data=.dict es ep/\es.toList=xs.map (entryOfKey (tupleKind (mixKind P w)))/\(xs.map (·.1)).Nodup
 | .set S n=>h.SetOf (intKind P w) a S n
 | ?l2=>?tV/\?nH/\dx≠a/\?a9=?c (?hK C dx) ∧
    ∃mA,?lI/\(?j7)/\?kV mA (?gN (·.1))
 | .own _=>?sZ
 | .xd fs=>∃mA,h.Ns1 a mA/\?j7
 | .rng lo hi=>∃t u v,?a9=?c ?jL
 | ?mG=>?hL/\?aR H h a u
 | .tbl ps=>?a9=?wF ps
 | .met f x=>?a9=?c (?j1 ?V ?cK)
 | .ext φ=>φ h/\(?sZ)/\∀h1 h2:Heap,φ h1->(∀o,h1.get? a=?v->h2.get? a=?v)->φ h2
def Qk(H:Hp)[?aJ]:Prop:=∀a o,?h5->?l6
universe e9
section
variable[?aF]{H H':Hp}{h h':Heap}[?b3]{o:HO}
theorem ObjOk.lt(x:?l6):?j5:=by
 cases o with
 | lst xs=>obtain⟨_,_,_,_,e⟩:=x;ext aH
 | tup xs=>obtain⟨_,_,_,p⟩:=x;exact p.lt
 | dK kvs=>obtain⟨_,_,_,_,o,_,_,e,_⟩:=x;ext aH
 | dT kvs=>obtain⟨_,_,_,_,o,_,_,e,_⟩:=x;ext aH
 | set S n=>obtain⟨o,_,_,_,e,_⟩:=x;ext aH
 | ins C dx fs=>obtain⟨_,_,_,e,_⟩:=x;ext aH
 | own y=>obtain⟨_,e⟩:=x;ext aH
 | xd fs=>obtain⟨_,⟨_,_,_,e,_⟩,_⟩:=x;ext aH
 | rng lo hi=>obtain⟨_,_,_,e⟩:=x;ext aH
 | frz ob u=>obtain⟨e,_⟩:=x;ext aH
 | tbl ps=>exact qb2 (show ?a9=?c _ from x)
 | met f y=>exact qb2 (show ?a9=?c _ from x)
 | ext φ=>obtain⟨_,⟨_,e⟩,_⟩:=x;ext aH
theorem Paired.mapP{α β:Type}{F G:α->?xY β}:∀{l₁:?l α}{l₂:?l β},?eT F l₁ l₂->(∀a b,F a b->G a b)->?eT G l₁ l₂
 | _,_,?E,_=>?E
 | _,_,?e8,f=>?J (f _ _ r) (?oJ t f)
theorem ObjOk.stay(x:?l6)(k:∀b u,(b=a\/H b=?gZ)->?kG)
 (ho:∀b,H b=?gZ->H' b=?gZ) (ht:?l0):?aR P w H' h' a o:=by
 induction o with
 | lst xs=>obtain⟨z,its,n,r,e⟩:=x;exact⟨z,its,n,r,?W⟩
 | tup xs=>obtain⟨z,its,r,ob,e,c⟩:=x;exact⟨z,its,r,ob,?W,c⟩
 | dK kvs=>obtain⟨z,y,vs,r,ob,es,ep,e,c⟩:=x;exact⟨z,y,vs,r,ob,es,ep,?W,c⟩
 | dT kvs =>
   obtain⟨z,y,xs,r,ob,es,ep,e,c⟩:=x;exact⟨z,y,xs,?oJ r fun p q z=>⟨z.1,ht _ _ z.2.1,z.2.2⟩,ob,es,ep,?W,c⟩
 | set S n=>obtain⟨ob,es,ep,t,e,c⟩:=x;exact⟨ob,es,ep,t,?W,c⟩
 | ins C dx fs =>
   obtain⟨d,z,ne,e,mA,⟨od,es,ep,e2,c⟩,r⟩:=x;exact⟨ho _ d,z,ne,?W,mA,⟨od,es,ep,k _ _ (?G d) e2,c⟩,r⟩
 | own y=>obtain⟨ob,e⟩:=x;exact⟨ob,?W⟩
 | xd fs=>obtain⟨mA,⟨od,es,ep,e,c⟩,r⟩:=x;exact⟨mA,⟨od,es,ep,?W,c⟩,r⟩
 | rng lo hi=>obtain⟨t,u,v,e⟩:=x;exact⟨t,u,v,?W⟩
 | frz ob u ih=>obtain⟨e,q⟩:=x;exact⟨?W,ih q⟩
 | tbl ps =>
   have e:?a9=?wF ps:=x;show ?eF a=?wF ps;exact ?nP
 | met f y =>
   have e:?a9=?c (?j1 ?V (?m y)):=x;show ?eF a=?c (?j1 ?V (?m y));exact ?nP
 | ext φ=>obtain⟨p,⟨o,e⟩,st⟩:=x;exact⟨st _ _ p fun o q=>k _ _ ?fM q,⟨o,?W⟩,st⟩
theorem Qk.lt[?f5](e:?h5):?j5:=(x a o e).lt
theorem Qk.fresh[?f5](e:?kK):?k5:=by
 cases q:H a with
 | none=>rfl
 | some u=>exact ?x2 (x.lt q) e
theorem Qk.kept[?f5][?hV]:Qk P w H h':=fun a o e =>
 (x a o e).stay (fun b u _ q=>?gQ) (fun _ q=>q) ?e9
theorem Qk.laid[?f5][?hV](hp:?kK)(new:?aR P w ?dN h' a o):Qk P w ?dN h':=fun b u e=>by
 have hn:=x.fresh hp;by_cases hb:b=a
 . subst hb;rw[Ab]at e;cases e;exact new
 . rw[Al hb]at e;exact(x b u e).stay (fun c v _ q=>k c v q) (fun c q=>?fZ) fun c xs q=>?fZ
universe e9
def Rd(H:Hp)[?aI](u:HO):Prop:=H a=?r\/∃o,H a=?kL
theorem Rd.ok[?aF]{H:Hp}{h:Heap}[?b3]{u:HO}(r:Rd H a u)[?f5]:?aR P w H h a u:=by
 rcases r with r|⟨o,r⟩
 . exact x a u r
 . obtain⟨_,q⟩:=x a _ r;exact q
def Mut:?bC HO->Prop
 | ?c (.lst _)=>True
 | ?c (.dK _)=>True
 | ?c (.dT _)=>True
 | ?c (.set _ _)=>True
 | ?c (.ins _ _ _)=>True
 | ?c (.ext _)=>True
 | _=>False
section
variable[?aF]{H:Hp}{h h':Heap}{x e:Addr}{o':HO}
theorem Qk.write(ok:?jS)[?uM]
 (new:?aR P w (upd H x o') h' x o'):Qk P w (upd H x o') h':=fun b u q=>by
 have Aa1:∀c y,H c=?c (.own y)->c≠x:=fun c y r z=>?sS
 have As5:∀c xs,H c=?g2->c≠x:=fun c xs r z=>?sS
 by_cases hb:b=x
 . subst hb;rw[Ab]at q;cases q;exact new
 . rw[Al hb]at q;by_cases WR:b=e
   . have q':H b=?c (.own x):=by
      rcases he with z | z
      . exact ?y (WR.trans z) hb
      . rw[WR];exact z
     rw[q]at q';cases q';obtain⟨v,hv⟩:=YI;exact⟨v,by rw[WR];exact hv⟩
   . refine(ok b u q).stay (fun c v hc r=>k c v ?_ r) (fun c r=>by rw[Al (Aa1 c b r)];exact r) fun c xs r=>by rw[Al (As5 c xs r)];exact r
     rcases hc with rfl | hc
     . exact WR
     . rintro rfl;rcases he with z | z
       . exact Aa1 c b hc z
       . rw[hc]at z;cases z;exact hb rfl
universe e9
structure Un(fs ex:?B)(H H':Hp)(h h':Heap):Prop where
 keep:∀b o,?aX->?A->b ∉ fs->?e3->?g8
 slot:∀b o,?aX->?A->b∈fs->?e3->?n5
 free:∀b o,?aX->?A->?e3->?gX
 there:∀b o,?aX->?e3->?nE
 tups:?l0
 frzs:?rJ
 tbls:?mR
section
variable{fs fs' ex ex':?B}{H H1 H2:Hp}{h h1 h2 h':Heap}{a x e:Addr}{o:HO}
theorem Un.any(u:?x0 H1 h1){b:Addr}{ob:Obj}(q:?h3=?c ob)(n:?A)(hx:?e3):∃sl,h1.get? b=?c { ob with slots:=sl }:=by
 by_cases hb:b∈fs
 . exact u.slot b ob q n hb hx
 . exact⟨?t3,?jU b ob q n hb hx⟩
theorem Un.kept[?hV]:?x0 H h' :=
 ⟨fun b ob q _ _ _=>?iN,fun b ob q _ _ _=>⟨?t3,?iN⟩,fun _ _ _ n _=>n,fun b ob q _=>⟨ob,?iN⟩,?e9,fun _ _ _ q=>q,fun _ ps q=>⟨#[],by rw[q];simp⟩⟩
theorem Un.refl:?x0 H h:=?k7 ?e9
theorem Un.laid[?hV](hp:?kK)(hn:?k5):?x0 ?dN h' where
 keep:=fun b u q _ _ _=>?gQ
 slot:=fun b u q _ _ _=>⟨u.slots,?gQ⟩
 free:=?x7 (qc5 (qb3 (qb2 q) hp))
 there:=fun b u q _=>⟨u,?gQ⟩
 tups:=fun b xs q=>?fZ
 frzs:=fun b u xs q=>?fZ
 tbls:=?wU (Ap q hn)
theorem Un.write[?uM]:?x0 (upd H x o) h':=by
 have hx:∀b,?A->b≠x:=fun b n z=>by subst z;rw[n]at mu;exact mu
 have hb:∀b,?A->b≠e:=fun b n z=>by
  subst z;rcases he with r | r
  . exact hx b n r
  . rw[n]at r;cases r
 have hm:∀b u,?lQ->¬Mut (?r)->b≠x:=fun b u q nm z=>by subst z;rw[q]at mu;exact nm mu
 refine⟨fun b u q n _ _=>?u6,fun b u q n _ _=>⟨u.slots,?u6⟩,?x7 (hx b n),fun b u q _=>?_,
  fun b xs q=>?oG,fun b u xs q=>?oG,?wU (hm b _ q fun z=>z)⟩
 by_cases WR:b=e
 . subst WR;exact YI
 . exact⟨u,k b u WR q⟩
universe e9
def trk[?aJ](H:Hp):?B:=(List.range ?nU).filter fun a=>(H a).isSome
def bC[?aJ](H:Hp):Heap:=PySem.W.hideAll h (trk h H)
theorem kC[?aJ](H:Hp):(bC h H).objs.size=h.objs.size:=PySem.W.hideAll_size _ _
theorem nJ{h:Heap}{H:Hp}[?i9](e:?aX)(n:?A):?xN ?v :=
 PySem.W.hideAll_get _ e fun hm=>by
  have q:(H b).isSome=true:=(qk7.mp hm).2;rw[n]at q;simp at q
theorem qN{h:Heap}{H:Hp}[?i9](e:?xN ?v):?aX/\?A:=by
 have e':h.get? b=some o:=PySem.W.of_hideAll (trk h H) e;refine⟨e',?_⟩;cases q:H b with
 | none=>rfl
 | some x =>
   have hm:b∈trk h H:=qk7.mpr ⟨qd8.mpr (qb2 e'),by simp[q]⟩;have z:?xN none:=PySem.W.hideAll_none (trk h H) hm;rw[z]at e;cases e
structure Mod[?k][?hZ]:Prop where
 kin:K.In ?a5
 glob:base.Ns mainGlobals mg
 blt:∃mb,base.Ns builtinsNs mb/\∀x:Str,x≠"__name__"->mb x=?h9
 nolimit:base.NoLimit
structure Cx where
 prog:Program
 w:World
 K:PySem.W.Frag
 mg:?bH
 base:Heap
 A:Around
 N:?H
 s₀:Shared
 H₀:Hp
 env:Env
 outer:?bI
 stack:?bI
 ex:?B
 fn:Str->?cF
 calm:Bool
 pn:Bg
 xe:?bQ
def LI(l:?bI):?B:=l.filterMap (·.frame)
noncomputable abbrev Cx.fs(X:Cx):?B:=LI ?gB
def Vis(sc:Scope)(x:Str):Prop:=?wM ?bO\/?lF\/?wM ?gE
def XQ(sc:Scope)(x:Str):Prop:=?q5
def A70(env:Env)[?aJ](m:?bH)(x:Str)(u:Value):Prop :=
 (env.kindOf x=?bO/\m x=?r)\/((env.kindOf x=?eB\/env.kindOf x=?gE)/\∃c,env.cells.lookup x=?fX/\h.IsCell c (?r))
structure Cx.Ok(X:Cx):Prop where
 mod:?mV
 kind:X.env.scope.kind=?pS
 glob:X.env.globals=mainGlobals
 blt:X.env.builtins=builtinsNs
 above:?vZ X.env.locals
 inj:∀x y c,?aV->?kB y=?fX->x=y
 has:∀x,(X.env.kindOf x=?eB\/X.env.kindOf x=?gE)->∃c,?aV
 cab:∀x c,?j2->?aV->?vZ c
 hd:?fQ->X.A.handled=none
 frames:X.A.frames=?c ?bX
 stk:X.stack=X.outer\/(X.stack=X.env::X.outer/\X.env.frame=?c ?gI)
 exf:∀b∈X.ex,?cP/\?tO
 bs:∀b o,?eQ->?k6/\?q7
 bsz:X.base.objs.size<=X.s₀.heap.objs.size
 noex:∀b o,?eQ->?mN
 exfs:∀b∈X.ex,?h2
 funs:?o1 ?bG ?gB
 frf:∀b∈X.fs,?q7
structure Bk[?Z](σ:?iF)(H:Hp)[?b1]:Prop where
 ok:X.Ok
 os:s.os=X.s₀.os
 bare:?nL
 base:Un X.fs X.ex X.H₀ H X.s₀.heap ?o
 loc:∃m,?o2/\∀(i:Nat) (x:Str) (v:V),?gD->?r4->?tN->∃u,?aQ/\A70 ?f ?o m x u
 cell:∀x c,?aV->∃v,s.heap.IsCell c v
 free:H ?gI=none
 freeC:∀x c,?aV->H c=none
 pin:∀p∈?iO,?qO
 hok:Qk ?X X.w H ?o
 len:σ.length=X.N.length
section
variable{X:Cx}{Ac:Bg}{σ:?iF}{H H':Hp}[?b2]{h':Heap}
theorem Cx.Ok.nofr(ok:X.Ok)[?i9](e:?eQ):?h2:=fun hb=>by
 have:=(ok.funs.mem hb).1;rw[e]at this;cases this
theorem Bk.bs[?e]:∀b o,?eQ->?qA:=fun b o e =>
 ⟨?gJ b o (?gU).1 (?gU).2 (I.ok.nofr e) (I.ok.noex b o e),?cE b o (?gU).1 (?gU).2 (I.ok.noex b o e)⟩
theorem Bk.bk[?e]:∀b o,?eQ->?b6:=fun b o e=>(I.bs b o e).1
theorem Bk.mod[?e]:?mV:=I.ok.mod
theorem Bk.kIn[?e]:X.K.In ?o:=I.ok.mod.kin.keeps I.bk
theorem Bk.lt[?e]:X.env.locals<s.heap.objs.size:=let ⟨_,hn,_⟩:=I.loc;hn.lt
theorem Bk.sz[?e]:?vZ s.heap.objs.size:=qa6 ?hM (qd4 I.lt)
theorem Bk.nofs[?e][?b3](h:?s8):a ∉ X.fs:=fun hb=>by
 obtain⟨_,o,ho,_⟩:=I.ok.funs.mem hb;exact ?x2 (qb2 ho) (qa6 I.sz h)
theorem Bk.cne[?e]:?xK X.env.locals:=fun x c e z=>by
 obtain⟨v,o,ho,hd⟩:=?fB;obtain⟨m,⟨o',es,ep,ho',hd',_⟩,_⟩:=I.loc;rw[z,ho']at ho;cases ho;rw[hd']at hd;cases hd
theorem Bk.funs[?e]:?fD ?bG ?gB:=by
 have all:∀(l:?bI),(∀b∈LI l,?sG)->?o1 ?bG l->?fD ?bG l:=by
  intro l
  induction l with
  | nil=>intro _ _;trivial
  | cons env r ih =>
    intro hs hl;obtain⟨hk,⟨L,o,hf,hn,ho,hd⟩,hr⟩:=hl;have hL:L∈X.fs:=hs L (by unfold LI;rw[qu8,hf];exact qe4);obtain⟨sl,e⟩:=?mZ L o ho (?u8 L hL) hL fun z=>?oR L z hL;exact⟨hk,⟨L,_,hf,hn,e,hd⟩,ih (fun b hb=>hs b (by unfold LI;rw[qu8,hf];exact ?tB)) hr⟩
 exact all ?gB (fun _ hb=>hb) I.ok.funs
theorem Bk.stack[?e]:?fD ?bG ?bX:=by
 rcases I.ok.stk with e|⟨e,hf⟩
 . rw[e];exact I.funs
 . rw[e];obtain⟨m,hn,_⟩:=I.loc;refine ?J (by rw[I.ok.kind];decide) hf hn ?_ I.funs;exact Heap.get?_none_of_le (qa6 ?nT ?hM)
theorem Bk.stkSub[?e]:∀b∈?gO,b∈X.env.locals::X.fs:=fun b hb=>by
 rcases I.ok.stk with e|⟨e,hf⟩
 . rw[e]at hb;exact ?tB
 . rw[e]at hb;unfold LI at hb;rw[qu8,hf]at hb;exact hb
theorem Bk.stkFree[?e]:∀b∈?gO,?A:=fun b hb=>by
 rcases ?lO (?oQ b hb) with e | hb
 . rw[e];exact I.free
 . obtain⟨_,o,ho,_⟩:=I.ok.funs.mem hb;exact ?cE b o ho (?u8 b hb) fun z=>?oR b z hb
theorem Bk.step[?vC][?e]
 [?lW]
 (keep:∀b o,?cP->?h2->?dE->?b6->?A->?g8)
 (slot:∀b o,?cP->?sG->?dE->?b6->?A->?n5) (free:∀b o,?dE->?b6->?A->?gX)
 (there:∀b o,?dE->?b6->?nE)
 (tups:?l0) (frzs:?rJ) (tbls:?mR)
 (ns:∀m,?o2->h'.Ns ?gI m) [?m9] (hg:?hP g') :
 ?o6:=by
 have neL:∀b o,?k6->?cP:=fun b o e=>qc5 (qb3 ?dD ?hM)
 have neC:∀b o,?k6->?mN->?dE:=fun b o e hx hb=>by
  rcases (hch b hb).1 with z | z
  . exact hx z
  . exact ?x2 ?dD z
 have cellK:∀x c,?aV->∀v,s.heap.IsCell c v->h'.IsCell c v:=fun x c e v ⟨o,ho,hd⟩=>by
  have aV:c ∉ ch:=?rI;by_cases hc:c∈X.fs
  . obtain⟨sl,q⟩:=?wX slot;exact⟨_,q,hd⟩
  . exact⟨o,?wX keep,hd⟩
 refine⟨I.ok,?cV,hg,⟨?g3,?g3,fun b o e n hx=>?_,?qU,fun b xs e=>tups b xs (?r5 b xs e),fun b o xs e=>frzs b o xs (?mF b o xs e),fun b ps e=>?_⟩,?_,?oL,?_,?oL,?lM,hok,?gS⟩
 . exact keep b o (neL b o e) hb ?fV (?x3 ?gJ hx) (?cE b o e n hx)
 . ext m1;obtain⟨sl',e2⟩:=slot b _ (neL b o e) hb ?fV e1 (?cE b o e n hx);exact⟨sl',e2⟩
 . ext hT;exact free b o' ?fV e1 (?cE b o e n hx)
 . ext hT;exact there b o' ?fV e1
 . obtain⟨m1,e1⟩:=?pV b ps e;obtain⟨m2,e2⟩:=tbls b _ e1;exact⟨m1++m2,by rw[e2,Array.append_assoc]⟩
 . obtain⟨m,hn,hl⟩:=I.loc;refine⟨m,ns m hn,fun i x v e1 e2 e3=>?_⟩;obtain⟨u,r,l⟩:=hl i x v e1 e2 e3;refine⟨u,r,?_⟩;rcases l with l|⟨k,c,e,z⟩
   . exact ?j l
   . exact ?G ⟨k,c,e,cellK x c e _ z⟩
 . obtain⟨v,z⟩:=?fB;exact⟨v,cellK x c e v z⟩
 . obtain⟨m,⟨o,_,_,ho,_⟩,_⟩:=I.loc;exact free _ o (?sN) ho ?aL
 . obtain⟨v,o,ho,hd⟩:=?fB;exact free c o (?rI) ho (?aN x c e)
 . ext m4;have aV:p.1 ∉ ch:=fun z=>(hch p.1 z).2.2.2 p hp rfl;exact⟨keep p.1 p.2 ne nf aV e n,free p.1 p.2 aV e n,ne,nf,d⟩
theorem Bk.un{t':Nat}[?e](u:Un X.fs [] H H' ?o h')[?m9]:?vX H' ?fJ:=by
 ext vG;obtain⟨sl,hL⟩:=u.any ho ?aL ?P
 exact ?kF (g':=s.gens) (d':=s.drawn) (ch:=[]) (fun _ z=>nomatch z) (?xX ?jU) (?xX u.slot) (fun b o _ e n=>u.free b o e n ?P) (fun b o _ e=>u.there b o e ?P) u.tups u.frzs u.tbls (fun m' hm=>by
  ext uQ) hok ?b7
theorem Bk.call[?vC][?e](u:Un (?gO) ch H H' ?o h')[?m9](hg:?hP g')
 [?lW] :
 ?o6:=by
 ext vG;obtain⟨sl,hL⟩:=u.any ho ?aL ?sN
 exact ?kF (ch:=ch) hch (fun b o hL hb hc e n=>?jU b o e n (fun z=>(?lO (?oQ b z)).elim hL hb) hc) (fun b o _ _ hc e n=>u.any e n hc) (fun b o hc e n=>u.free b o e n hc) (fun b o hc e=>u.there b o e hc) u.tups u.frzs u.tbls (fun m' hm=>by
  ext uQ) hok hg
theorem Bk.turned{t':Nat}{it:Addr}[?e](k:∀b o,b≠it->?b6->?g8)(hn:H it=none)(hL:it≠X.env.locals)
 (h1:it∈X.ex\/?vZ it) (h2:?xK it) (h3:∀p∈?iO,p.1≠it):?nF:=by
 have nit:∀b u,?lQ->b≠it:=fun b u e z=>by rw[z,hn]at e;cases e
 refine ?kF (g':=s.gens) (d':=s.drawn) (ch:=[it]) (?dW) (fun b o _ _ hc e _=>?jM) (fun b o _ _ hc e _=>⟨o.slots,?jM⟩) (fun _ _ _ _ n=>n)
  (fun b o hc e=>⟨o,?jM⟩) (fun _ _ e=>e) (fun _ _ _ e=>e) (fun b ps e=>⟨#[],by rw[e];simp⟩) (fun m hm=>?_) (fun b u e=>?_) ?b7
 . ext hY
   subst e;exact⟨h1,hL,h2,h3⟩
 . obtain⟨o,es,ep,ho,r⟩:=hm;exact⟨o,es,ep,k _ o (?fF hL) ho,r⟩
 . refine ?xI u (fun c v hc q=>k c v ?_ q);rcases hc with z | z
   . rw[z];exact nit b u e
   . exact nit c _ z
theorem Bk.tok[?e](t:Nat):Bk X Ac σ H { s with toks:=t }:=I.un (h':=s.heap) (t':=t) Un.refl ?aT
theorem Bk.kept{t':Nat}[?e][?vI]:?nF:=I.un (?k7 k) (I.hok.kept k)
theorem Bk.laid[?b3]{o:HO}{t':Nat}[?e][?vI](hp:?s8)(new:?aR ?X X.w ?dN h' a o) :
 ?vX ?dN ?fJ:=I.un (Un.laid k hp (?jJ hp)) (I.hok.laid k hp new)
theorem Bk.write{x e:Addr}{o:HO}{t':Nat}[?e](mu:?qS)(he:?sO)(k:∀b u,b≠e->?tF)(YI:?tK)
 (new:?aR ?X X.w (upd H x o) h' x o):?vX (upd H x o) ?fJ:=I.un (Un.write mu he k YI) (I.hok.write mu he k YI new)
theorem Bk.pins_of{sY:Bg}[?e](h:∀p∈sY,?qO):Bk X sY σ H s :=
 ⟨I.ok,?cV,?b7,?lL,?dZ,?c1,?aL,?aN,fun p hp=>?sI (fun z=>?cY p (qm5 _ z)) (h p),?aT,?gS⟩
theorem dH{N:?H}(hN:N.Nodup){i j:Nat}{x:Str}(a:N[i]?=?cX)(b:N[j]?=?cX):i=j:=by
 obtain⟨h1,e1⟩:=?jY a;obtain⟨h2,e2⟩:=?jY b;exact(List.getElem_inj hN).mp (e1.trans e2.symm)
theorem i5{M:Model}[?t][?Q][?c5]{v:V}[?O][?f0][?e][?hS][?c6]
 (h:∀s',?qP->(∃a,?jE a ?o ?cI/\(a=X.env.locals\/?kB x=?c a))->?jG) [?d1]:?tQ:=by
 obtain⟨m,hn,hl⟩:=id ?dZ;have hcls:(X.env.scope.kind==.class || (X.env.scope.kind==.module&&X.env.locals != X.env.globals))=false:=by rw[I.ok.kind];rfl
 have hiσ:i<σ.length:=by rw[I.len];exact(?jY hi).1
 have cne:=I.cne
 have tracked:∀[?b3]{h':Heap},(∃o,?cO a=?v/\?k5)->?jE a ?o h'->Qk ?X X.w H h':=fun {a h'} ha hs b ob e=>by
  obtain⟨_,_,hfree⟩:=ha;refine ?xI ob (fun c w' hc q=>(hs.2 c ?_).trans q);rintro rfl;rcases hc with rfl | hc
  . rw[hfree]at e;cases e
  . rw[hfree]at hc;cases hc
 rcases hx with hk | hk
 . refine wpAny_storeName_local hk hn (fun h' hn' hs=>?_) hcls;obtain⟨oL,_,_,hoL,_⟩:=id hn;refine h _ ⟨I.ok,?cV,?b7,?pT,⟨_,hn',?qQ⟩,fun y c e=>?_,?aL,?aN,?lM,tracked ⟨oL,hoL,?aL⟩ hs,?pM⟩ ⟨_,hs,?j rfl⟩
   . exact ?lC (?x3 ?gJ hx)
   . ext m1;exact⟨sl,?lC e1⟩
   . ext hT;exact⟨o',?lC e1⟩
   . by_cases hj:j=i
     . ext uY;exact⟨u,r,?j ⟨hk,?aA⟩⟩
     . ext uP;rcases q with⟨k,e⟩|⟨k,c,e,z⟩
       . refine ?j ⟨k,?_⟩;have:y≠x:=fun e=>hj (dH hN e1 (e▸hi));simp[this,e]
       . exact ?G ⟨k,c,e,?oY⟩
   . obtain⟨w',z⟩:=?c1 y c e;exact⟨w',?oY⟩
   . ext m4;exact(?xC ne)
 . have hfn:?j2:=by
    rcases hf with z | z
    . exact z
    . rw[z]at hk;cases hk
   obtain⟨c,hc⟩:=I.ok.has x (?j hk);obtain⟨w',z⟩:=?c1 x c hc;refine wpAny_storeName_cell ?c9 hk hc z (fun h' hc' hs=>?_);obtain⟨oc,hoc,Aw7⟩:=id z;refine h ?fY ⟨I.ok,?cV,?b7,?pT,⟨m,hn.sameBut hs (?fF (cne x c hc)),?qQ⟩,fun y c' e=>?_,?aL,?aN,?lM,tracked ⟨oc,hoc,?aN x c hc⟩ hs,?pM⟩ ⟨c,hs,?G hc⟩
   . exact ?l5 (?x3 ?gJ hx)
   . ext m1;exact⟨sl,?l5 e1⟩
   . ext hT;exact⟨o',?l5 e1⟩
   . by_cases hj:j=i
     . ext uY;exact⟨u,r,?G ⟨?j hk,c,hc,hc'⟩⟩
     . ext uP;rcases q with q|⟨k,c',e,z'⟩
       . exact ?j q
       . refine ?G ⟨k,c',e,z'.sameBut hs ?_⟩;rintro rfl;exact hj (dH hN e1 (I.ok.inj _ _ _ e hc▸hi))
   . by_cases hcc:c'=c
     . subst hcc;exact⟨_,hc'⟩
     . obtain⟨w2,z2⟩:=?c1 y c' e;exact⟨w2,z2.sameBut hs hcc⟩
   . ext m4;refine(?xC ?_);intro q;rw[q,hoc]at e;have q':oc=p.2:=qd3 e;exact d w' (by rw[←q'];exact Aw7)
theorem cG{M:Model}[?t][?Q][?c5]{v:V}[?O][?f0][?e][?hS][?c6]
 (h:∀s',?qP->?jG) [?d1]:?tQ :=
 i5 I hN hi hx r (fun s' I' _=>h s' I') hf
theorem Bk.call'{s':Shared}{ch:?B}[?e](ho:?r7)(u:Un (?gO) ch H H' ?o ?cI)(hok:Qk ?X X.w H' ?cI)(hg:?sX)
 [?lW]:?p0:=by
 obtain⟨h',g',d',t',o'⟩:=s';have e:o'=s.os:=ho;subst e;exact I.call (g':=g') (t':=t') (d':=d') u hok hg hch
universe e9
noncomputable abbrev XK:=?L->OAddr->?aB
noncomputable abbrev St:=?iF
noncomputable abbrev VK:=?dQ
noncomputable abbrev TE:=St->?jD
noncomputable abbrev TT:=?wE ?nA
noncomputable abbrev TA:=?wE ?iW
structure Ends where
 nx:?z
 rt:VK
 bk:?z:=?iQ
 ct:?z:=?iQ
noncomputable abbrev TS:=Ends->?z
inductive EP[?Z](σ:St)(Q:VK)(u:Value)[?aG]:Prop
 | mk (v:V) [?i1] [?c6] (q:?h7):?r0
inductive TP[?Z](σ:St)[?f2](b:Bool)[?aG]:Prop
 | mk [?i1] (q:Q b H'):TP X Ac σ Q b s'
inductive AP[?Z](σ:St)(Q:?iW)[?c4][?aG]:Prop
 | mk [?b0] [?i1] [?iB] (q:Q vs H'):AP X Ac σ Q us s'
inductive NP[?Z](N:?z)[?aG]:Prop
 | mk [?vM] (q:?jH):?wV N
inductive HP[?Z](σ:St)(Q:?aB)[?aG]:Prop
 | mk [?i1] (q:Q H'):?nV
inductive YP[?Z](σ:St)(u:Value)(Y:?dQ)(T:Prop)(fp:?B)(s2:Shared):Prop
 | mk (x:V) (H':Hp) (i:?qC) (r:?bR) (y:Y x H') (t:T) (f:?gM):YP X Ac σ u Y T fp s2
inductive RP[?Z](Q:VK)(u:Value)[?aG]:Prop
 | mk (v:V) [?vM] [?c6] (q:?h7):RP X Ac Q u s'
def SP[?Z](D:Ends)(f:Flow)[?aG]:Prop :=
 match f with
 | .next=>?wV D.nx
 | .brk=>?wV D.bk
 | .cont=>?wV D.ct
 | .ret u=>RP X Ac D.rt u s'
def PE(X:Cx)(e:Expr)(t:TE):Prop :=
 ∀[?C] (Q:VK),?p->?eP->?vR (?cT) ?bW
def PT(X:Cx)(e:Expr)(t:TT):Prop :=
 ∀[?C] [?f2],?xS (isTrue e ?f (?cT)) TP
def PW(X:Cx)(e:Expr)(t:TT):Prop :=
 ∀(whole:Sem ?L) [?C] [?f2],?xS (?sW) TP
theorem PW.pt{X:Cx}[?b4]{t:TT}(h:PW X e t):PT X e t:=h _
def PA(X:Cx)(es:?e7)(t:TA):Prop :=
 ∀(pos:Pos) [?C] (Q:?iW),?xS (spliced (?iZ)) AP
def PS(X:Cx)(st:Stmt)(t:TS):Prop :=
 ?xR exec
def IQ(X:Cx)(st:?bK)(t:TS):Prop :=
 ?xR execs
theorem Dk{α:Type}{t:Sem α}{Q Q':α->?cG}{M:Model}[?t][?Q][?b2](h:?w3 M t)(hQ:∀a s,Q a s->Q' a s):?d M A t Q' E s:=qo3 h hQ fun _ _ x=>x
section
variable{X:Cx}
theorem bin{a b:Expr}{ta tb:TE}[?c2][?eX]{R:V->?dQ}[?e][?vH]
 {α:Type}{Q:α->?cG}{f:?L->?L->Sem α}
 [?uN] :
 ?nS:=by
 ext vB;ext aD;ext uJ
inductive UD(i:Nat)(σ:St)(H:Hp)(Q:VK):Prop
 | mk:∀v,(?r4)->(Q v H)->?s7
def zE(i:Nat):TE:=fun σ H Q=>?s7
def tC(v:V):TE:=fun _ H Q=>Q v H
theorem vI[?c5][?N](hN:?gD)(hv:?tN)[?eW](hcd:(x==("__classdict__":Str))=false:=by decide):?x1 ?gH (zE i):=by
 ext I;obtain⟨v,e,h⟩:=h;obtain⟨m,hn,hl⟩:=I.loc;obtain⟨u,r,l⟩:=hl i x v hN e hv;have fin:EP X Ac σ Q u s:=?k4
 rcases l with⟨hk,hm⟩|⟨hk,c,hc,hcell⟩
 . exact ?j6 (wpAny_loadName_local ?c9 hk hn hm fin) hd
 . rcases hk with hk | hk
   . exact ?j6 (wpAny_loadName_cell ?c9 hk hc hcell fin) hd
   . exact ?j6 (wpAny_loadName_free ?c9 hk hc hcell fin hcd) hd
theorem Am{i j pos}:?wP (?aW) ?aW:=?wJ wpAny_Constant_int ⟨?aW,H,?dJ,?b8,h⟩
theorem Nr{b j pos}:?wP (?g6 b) ?hQ:=?wJ Constant_bool ⟨?hQ,H,I,rfl,h⟩
theorem FE{j pos}:?x1 (?gR .none j pos) (tC ?w):=?wJ Constant_none ⟨?w,H,I,rfl,h⟩
theorem Mz{x j pos}:?wP (?cU) ?cU:=?wJ Calls.Constant_str ⟨?cU,H,?dJ,?b8,h⟩
def Gl(X:Cx)(x:Str):Prop:=X.env.kindOf x=?c .globalImplicit
theorem Wb[?Q][?eX]{x:Str}[?O][?N][?aZ][?e][?f6](hm:?eN=?r)(h:Q u s)
 [?eW]:?uB :=
 ?r8 ?c9 hg (Calls.loadGlobal_global (?wR I.bk) hm h) hd
theorem Iy[?Q][?eX]{x:Str}[?O][?N][?aZ][?e][?v9](h:Q u s)
 [?i0] [?eW]:?uB:=by
 obtain⟨mb,h1,h2⟩:=I.mod.blt;exact ?r8 ?c9 hg (Calls.loadGlobal_builtin (?wR I.bk) hm (by rw[I.ok.blt];exact h1.keeps I.bk) ((h2 x hn).trans hv) h) hd
theorem Jj{x:Str}{v:V}[?O][?N][?f6](hm:?eN=?r)[?c6][?eW]:?pH :=
 fun _ _ _ H _ I h=>Wb I hg hm ?k4 hd
theorem Gy{x:Str}{v:V}[?O][?N][?v9][?c6][?i0][?eW]:?pH :=
 fun _ _ _ H _ I h=>Iy I hg hm hv ?k4 hn hd
variable{a b:Expr}{ta tb:TE}[?N]
def PC(X:Cx)(op:CmpOp)(a b:Expr)(t:TE):Prop :=
 ∀[?C] (Q:VK),?p->?eP →
   ?vR (?jO) (?xT (?xZ (?aM op v u) ?bW))
theorem MO(b:Expr){op:CmpOp}(h:?p9)(h2:?p2):?hG:=by
 ext uS
 ext uR
 cases b<;>simp[behindInMarks,e1,e2]
inductive ItB[?f2](x:V)(H1:Hp):Prop
 | mk:∀c,?gF->(Q c H1)->?pU
def tB(t:TE):TT:=?vU t ?pU
theorem As1{op:CmpOp}{t:TE}(h:PC X op a b t)(h1:?hG:=by first | exact MO _ ?eS ?eS | rfl):?wS PT (tB t):=by
 intro Ac s σ H Q I hw;refine ?q9 (Dk (?w8 h hw) fun v s1 h1=>Dk h1 fun u s2 h2=>Dk h2 fun c s3 _z=>?_) h1;ext aD;ext uX
theorem Gw[?b4]{t:TE}(h:?x1 e t)(he:∀whole,?sW=(do let v ←whole;?kI e.pos;?eA [v] (truthy v)):=by intro _;rfl):PT X e (tB t):=by
 intro Ac s σ H Q I hw;refine isTrue_plain (Dk (?w8 h hw) ?dT) (he _);ext aD;ext uX
variable{tA tB':TT}{rest:?e7}
def Aq8(t u:TT):TT:=fun σ H Q=>t σ H fun c H1=>if ?dF then ?pG else Q ?bY H1
def tOr(t u:TT):TT:=fun σ H Q=>t σ H fun c H1=>if ?dF then Q true H1 else ?pG
def Aq5(t:TT):TT:=fun σ H Q=>t σ H ?tD
theorem aO[?f4]:?x9 [a] tA:=by
 intro wh Ac s σ H Q I h;refine isTrue_and (Dk (ha Ac s σ H Q I h) fun c s1 e=>?_);cases c with
 | true=>exact isTrue_and_nil e
 | false=>exact e
theorem Xb[?f4]:?xH [a] tA:=by
 intro wh Ac s σ H Q I h;refine isTrue_or (Dk (ha Ac s σ H Q I h) fun c s1 e=>?_);cases c with
 | false=>exact isTrue_or_nil e
 | true=>exact e
theorem fC[?f4](hb:?x9 (b::rest) tB'):?x9 (a::b::rest) (Aq8 tA tB'):=by
 intro wh Ac s σ H Q I h;refine isTrue_and (Dk (ha Ac s σ H _ I h) fun c s1 _z=>?_);obtain⟨H1,I1,q1⟩:=_z;cases c with
 | true=>exact ?qG
 | false=>exact ?fL
theorem cT[?f4](hb:?xH (b::rest) tB'):?xH (a::b::rest) (tOr tA tB'):=by
 intro wh Ac s σ H Q I h;refine isTrue_or (Dk (ha Ac s σ H _ I h) fun c s1 _z=>?_);obtain⟨H1,I1,q1⟩:=_z;cases c with
 | true=>exact ?fL
 | false=>exact ?qG
theorem Ht[?f4]:PT X (?l7 .Not a pos) (Aq5 tA):=by
 ext I;exact isTrue_not (Dk (ha Ac s σ H (?tD) I h) fun c s1 ?fL=>?fL)
inductive oO(tb:TE)(σ:St)[?f3]:Prop
 | mk:∀c,?gF->(if ?dF then ?jQ else Q (?h4) H1)->?qD
def zJ(ta tb:TE):TE:=?vU ta ?qD
inductive uE(tb:TE)(σ:St)[?f3]:Prop
 | mk:∀c,?gF->(if ?dF then Q (?r3) H1 else ?jQ)->?qB
def Aq4(ta tb:TE):TE:=?vU ta ?qB
inductive OM[?f3]:Prop
 | mk:∀c,?gF->(Q (?qM) H1)->?nI
def ZF(ta:TE):TE:=?vU ta ?nI
theorem M0{op}{t:TE}(h:?x1 a t):?x1 (?Y op [a] pos) t:=fun Ac s σ H Q I hw=>BoolOp_one (h Ac s σ H Q I hw)
theorem K8[?iA](hb:?x1 (?Y .And (b::rest) pos) tb):?x1 (?Y .And (a::b::rest) pos) (zJ ta tb):=by
 intro Ac s σ H Q I h;refine BoolOp_and (Dk (ha Ac s σ H _ I h) fun v s1 _z=>?_);obtain⟨x,H1,I1,r1,q1⟩:=_z;obtain⟨c,rfl,q1⟩:=q1;cases r1;refine qj3 ?_;cases c with
 | true=>ext m5
 | false=>exact(?xJ ?h4)
theorem ZV[?iA](hb:?x1 (?Y .Or (b::rest) pos) tb):?x1 (?Y .Or (a::b::rest) pos) (Aq4 ta tb):=by
 intro Ac s σ H Q I h;refine BoolOp_or (Dk (ha Ac s σ H _ I h) fun v s1 _z=>?_);obtain⟨x,H1,I1,r1,q1⟩:=_z;obtain⟨c,rfl,q1⟩:=q1;cases r1;refine qj3 ?_;cases c with
 | false=>ext m5
 | true=>exact(?xJ ?r3)
theorem mF[?iA]:?x1 (?l7 .Not a pos) (ZF ta):=by
 ext I;refine ?nY (?nC);ext aD;obtain⟨c,rfl,q1⟩:=q1;cases r1;exact not_of (qj3 (?xJ ?qM))
def tIf(t:TT)(ta tb:TE):TE:=fun σ H Q=>t σ H fun c H1=>if ?dF then ta σ H1 Q else ?jQ
theorem Sd{c:Expr}(hc:PT X c tA)[?c2]:?x1 (.IfExp c a b pos) (tIf tA ta tb):=by
 intro Ac s σ H Q I h;refine wpAny_IfExp (Dk (hc Ac s σ H _ I h) fun d s1 _z=>?_);obtain⟨H1,I1,q1⟩:=_z;cases d with
 | true=>exact ?vY ha Q
 | false=>ext m5
universe e9
def SqL[?k](H:Hp)[?aI][?c7]:Prop :=
 Rd H a ?gY ∨
  ∃(o:Obj) (its:?bM) (n:Nat),?nQ/\o.cls=?sH/\?oC
def Dy[?k](H:Hp)[?aI][?c7]:Prop :=
 Rd H a ?fG ∨
  ∃(o:Obj) (its:?bM) (n:Nat),?nQ/\?qR/\?oC
def A32:?L->?dB
 | .none=>?c ?w
 | ?g6 b=>?c (?hQ)
 | ?i i _=>?c (?aW)
 | .str x _=>?c (?cU)
 | .bytes b _=>?c (.byt b)
 | .float b _=>?c (.flt b)
 | ?aU=>?c ?dP
 | ?bF n=>?c (.ty n)
 | _=>none
theorem RelV.abs{x:V}[?O](r:?bR):A32 u=?cX:=by
 cases x with
 | non=>cases r;rfl
 | bl _=>cases r;rfl
 | int _=>ext d5;rfl
 | str _=>ext d5;rfl
 | byt _=>ext d5;rfl
 | flt _=>ext d5;rfl
 | ref _=>cases r;rfl
 | ty _=>cases r;rfl
theorem RelV.inj{x y:V}[?O](r:?bR)(q:?h0):x=y:=qd3 (r.abs.symm.trans q.abs)
theorem Vals.inj:∀{xs ys:?q}[?M],?b9->?F ys us->xs=ys
 | _,_,_,?E,?E=>rfl
 | _,_,_,?e8,?J r' t'=>by rw[?lS,Vals.inj t t']
section
variable{X:Cx}[?aE][?b3]{xs ys:?q}
theorem SqL.of[?a0](h:H a=?c ?gY):?eI:=?j (?j h)
theorem Dy.of[?a0](h:H a=?g2):?cW:=?j (?j h)
theorem Bk.list[?e](h:?pZ):∃its:?u,?hD/\PlainL ?o a ?bP/\?cM:=by
 rcases h with h|⟨o,its,n,hk,hc,hd,hs,hz,r⟩
 . obtain⟨z,its,n,r,e⟩:=?rN;exact⟨its,r,⟨_,n,e,rfl,rfl,rfl⟩,z⟩
 . refine⟨?iV,r,⟨o,n,?t9,hc,hd,?mM⟩,?_⟩;have e:=r.length;simp only[qu9]at e;omega
theorem Bk.tuple[?e](h:?o0):∃its:?u,?hD/\?g5 ?o a ?bP/\?cM:=by
 rcases h with h|⟨o,its,n,hk,hc,_,hs,hz,r⟩
 . obtain⟨z,its,r,p⟩:=?rN;exact⟨its,r,p.tup,z⟩
 . refine⟨?iV,r,⟨o,?t9,hc,n,?mM⟩,?_⟩;have e:=r.length;simp only[qu9]at e;omega
theorem Bk.list_inj[?e](h:?pZ)(h':SqL X.K H a ys):xs=ys:=by
 obtain⟨its,r,⟨o,n,e,_,_,d⟩,_⟩:=?fO h;obtain⟨its',r',⟨o',n',e',_,_,d'⟩,_⟩:=?fO h';ext uK
 subst this;exact ?lS
theorem Bk.tuple_inj[?e](h:?o0)(h':Dy X.K H a ys):xs=ys:=by
 obtain⟨its,r,⟨o,e,_,n,d⟩,_⟩:=?iI h;obtain⟨its',r',⟨o',e',_,n',d'⟩,_⟩:=?iI h';ext uK
 subst this;exact ?lS
universe e9
noncomputable abbrev Cx.wish(X:Cx)[?eY]:Cx:={ X with xe:=E }
noncomputable abbrev Cx.nox(X:Cx):Cx:=X.wish ?iQ
theorem Cx.Ok.wish{X:Cx}(ok:X.Ok)[?eY]:?q6 :=
 ?qF
theorem Cx.Ok.unwish{X:Cx}[?Q](ok:?q6):X.Ok :=
 ?qF
section
variable{X:Cx}[?aE][?Q]
theorem Bk.wish[?e][?eY]:?oW:=⟨I.ok.wish E,?cV,?b7,?lL,?dZ,?c1,?aL,?aN,?cY,?aT,?gS⟩
theorem Bk.unwish(I:?oW):?p:=⟨I.ok.unwish,?cV,?b7,?lL,?dZ,?c1,?aL,?aN,?cY,?aT,?gS⟩
theorem SP.unwish{D:Ends}{f:Flow}{s':Shared}(h:SP (X.wish E) Ac D f s'):SP X Ac D f s':=by
 cases f with
 | next=>ext lZ
 | brk=>ext lZ
 | cont=>ext lZ
 | ret u=>obtain⟨v,σ',H',I,r,q⟩:=h;exact⟨v,σ',H',?n9,r,q⟩
theorem IQ.nox{st:?bK}{t:TS}(h:IQ X.nox st t):IQ X st t:=fun Ac s σ H D I hw =>
 qo3 (h Ac s σ H D (I.wish _) hw) (fun _ _ q=>q.unwish) fun _ _ z=>?eK z
universe e9
section
variable{X:Cx}{st:Stmt}{rest:?bK}{t u:TS}[?b4]{te:TE}[?N]
def zG:TS:=fun D σ H=>?bZ
def Ao(t u:TS):TS:=fun D σ H=>t { D with nx:=u D } σ H
theorem Bu:IQ X [] zG:=fun _ _ σ H _ I h=>qv0 ?qL
theorem Af(h1:?t6)(h2:IQ X rest u):IQ X (st::rest) (Ao t u):=by
 intro Ac s σ H D I h;refine wpAny_execs_cons (Dk (h1 Ac s σ H { D with nx:=u D } I h) fun f s1 q=>?_);cases f with
 | next =>
   obtain⟨σ',H',I',q⟩:=q;exact h2 Ac s1 σ' H' D I' q
 | ret v=>exact q
 | brk=>exact q
 | cont=>exact q
theorem Ak(h1:?t6):IQ X [st] t:=by
 intro Ac s σ H D I h;refine wpAny_execs_cons (Dk (h1 Ac s σ H D I h) fun f s1 q=>?_);cases f with
 | next=>exact qv0 q
 | ret v=>exact q
 | brk=>exact q
 | cont=>exact q
theorem Bk.quiet[?aE][?e]:interactive ?f=false:=by simp[interactive,I.ok.kind]
def ZH(te:TE):TS:=fun D σ H=>te σ H fun _ H1=>?r9
theorem Br[?d8](hs:?kD e ?cQ ?g9 ?f=?fS:=by rfl):PS X (.Expr e pos) (ZH te):=by
 ext d4;exact wpAny_Expr_any (Dk ?cJ fun v s1 ?e4=>⟨σ,H1,I1,q1⟩) I.quiet hs
def Aq3(te:TE):TS:=fun D σ H=>te σ H D.rt
theorem Be[?d8]:PS X (.Return (?c e) pos) (Aq3 te):=by
 ext d4;exact wpAny_Return_some (Dk ?cJ fun v s1 ?e4=>⟨x,σ,H1,I1,r1,q1⟩)
def pL(c:TT)(t u:TS):TS:=fun D σ H=>c σ H fun b H1=>if b=true then t D σ H1 else u D σ H1
theorem Cj{c:Expr}{a b:?bK}{tc:TT}(hc:?tG)(ha:IQ X a t)(hb:IQ X b u):PS X (.If c a b pos) (pL tc t u):=by
 intro Ac s σ H D I h;refine wpAny_If (Dk (hc Ac s σ H _ I h) fun d s1 _z=>?_);obtain⟨H1,I1,q1⟩:=_z;cases d with
 | true=>exact ?vY ha D
 | false=>exact ?vY hb D
def uW:TS:=fun _ _ _=>False
theorem Sb:PS X st uW:=fun _ _ _ _ _ _ h=>h.elim
universe e9
noncomputable abbrev TG:=V->?wE ?z
noncomputable abbrev pC:=?q->?wE ?z
def PG(X:Cx)(target:Expr)(t:TG):Prop :=
 ∀[?C] (v:V) (u:Value) (Q:?z),?p->?aQ->t v σ H Q →
   ?vR (?fU target ?f u) (fun _ s'=>NP X Ac Q s')
def PGs(X:Cx)(ts:?e7)(t:pC):Prop :=
 ∀[?C] [?b0] [?c4] (Q:?z),?p->?kT->t vs σ H Q →
   ?d ?g X.A (assignInOrder ((?hN ts ?f).map (·.2)) us) (fun _ s'=>?wV Q) ?h s
noncomputable abbrev xO:=V->V->V->Hp->?xY (?aB)
def Ah6(X:Cx)(t:xO):Prop :=
 ∀[?C] (o i v:V) (ov iv u:Value) (Q:?aB),?p->?a3 o ov->?a3 i iv->?aQ->t o i v H Q →
   ?vR (setItem ov iv u) (fun _ s'=>?nV)
section
variable{X:Cx}[?N]
def y6(i:Nat):TG:=fun v σ H Q=>Q (σ.set i ?dY) H
theorem QE[?c5][?hS][?d1]:?oD:=by
 intro Ac s σ H v u Q I r h;exact wpAny_assign_Name (cG I hN hi hx r (fun s' I'=>⟨_,H,I',h⟩) hf)
theorem At[?c5](hN:X.N.Nodup)[?v2][?d1]:?oD:=QE hN hi hx hf
structure Ai4[?b0][?m7]:Prop where
 mk::(left:vs=[]) (right:Q σ H)
def A21:pC:=fun vs σ H Q=>Ai4 vs σ H Q
inductive OV(t:TG)(u:pC)[?b0][?m7]:Prop
 | mk:∀v r,(vs=v::r)->(t v σ H fun σ' H'=>u r σ' H' Q)->?nZ
def Af0(t:TG)(u:pC):pC:=fun vs σ H Q=>?nZ
theorem D9:PGs X [] A21:=by
 intro Ac s σ H vs us Q I r h;obtain⟨e,h⟩:=h;subst e;cases r;exact assignInOrder_nil ?qL
theorem Bm[?b4][?d9]{t:TG}{u:pC}(h1:PG X e t)(h2:PGs X es u)
 (hs:(?hN ?a1 ?f).map (·.2)=?fU e ?f::(?jF).map (·.2):=by rfl):PGs X ?a1 (Af0 t u):=by
 intro Ac s σ H vs us Q I r h;obtain⟨v,vr,e1,h⟩:=h;subst e1;cases r with
 | cons r rr =>
   rw[hs];refine assignInOrder_cons (Dk (h1 Ac s σ H _ _ _ I r h) fun _ s1 _z=>?_);obtain⟨σ1,H1,I1,q1⟩:=_z;exact h2 Ac s1 σ1 H1 _ _ Q I1 rr q1
inductive uK[?k](n:Nat)(t:pC)(v:V)[?m7]:Prop
 | mk:∀a xs,(v=?aU)->(?cW)->(xs.length=n)->(t xs σ H Q)->?rE
def Ae9[?k](n:Nat)(t:pC):TG:=fun v σ H Q=>?rE
theorem VH[?d9]{k:Nat}{t:pC}{n:Nat}[?i7](h:PGs X es t)
 (hn:(?jF).length=n:=by rfl) (hst:(?jF).findIdx? (·.1)=none:=by rfl):PG X (.Tuple es k pos) (Ae9 X.K n t):=by
 intro Ac s σ H v u Q I r hw;obtain⟨a,xs,e1,hq,hl,hw⟩:=hw;subst e1;cases r;obtain⟨its,rv,ht,hz⟩:=?iL;refine assign_Tuple_tuple ?c0 ht (by simp[hn,←hl,rv.length]) hst fun h' hx=>?_;have I1:?p4:=?kM (t':=s.toks) fun b o e=>hx b o (qc5 ?dD) e;exact h Ac _ σ H xs _ Q I1 (by simpa using rv) hw
def A20(to ti:TE)(t:xO):TG:=fun v σ H Q=>to σ H fun o H1=>ti σ H1 fun i H2=>t o i v H2 fun H3=>Q σ H3
theorem J8{o i:Expr}{to ti:TE}{t:xO}(ho:?x1 o to)(hi:?x1 i ti)(hs:Ah6 X t)
 (ha:∀v,?fU (.Subscript o i pos) ?f v=(do
   let ov ←?eA [v] (?kA)
   let iv ←?eA [v,ov] (?U i ?f)
   ?kI pos
   ?eA ?oX (setItem ov iv v)
   release ?oX []):=by intro _;rfl):PG X (.Subscript o i pos) (A20 to ti t):=by
 intro Ac s σ H v u Q I r h;rw[ha];refine qa7 (qq8 (Dk (?w8 ho h) fun ov s1 _z=>?_));ext aD;refine qa7 (qq8 (Dk (?vY hi _) fun iv s2 _z=>?_));obtain⟨y,H2,I2,r2,q2⟩:=_z;refine qa7 (wpAny_standAt (qa7 (qq8 (Dk (hs Ac s2 σ H2 x y v ov iv u _ I2 r1 r2 r q2) fun _ s3 _z=>?_))));obtain⟨H3,I3,q3⟩:=_z;exact wpAny_release ⟨σ,H3,I3,q3⟩
def PL(te:TE)(g:TG):TS:=fun D σ H=>te σ H fun x H1=>g x σ H1 D.nx
theorem J7{tg e:Expr}{te:TE}{g:TG}[?d8](hg:?sA)(hs:swapsWithSole [tg] e ?g9 ?f=?fS:=by rfl)(hw:swappedStores [tg] e ?f=pure ?cQ:=by rfl)
 (h1:(?hN [tg] ?f).map (·.2)=[?fU tg ?f]:=by rfl):PS X (?iP [tg] e pos) (PL te g):=by
 ext d4;refine wpAny_Assign_stores (Dk ?cJ ?dT) hs hw;ext aD;rw[h1];exact Dk (hg Ac s1 σ H1 x v _ I1 r1 q1) fun _ s2 q=>q
theorem VF[?c5][?b4]{te:TE}{pos':Pos}[?hS][?d8][?uW][?d1] :
 ?oU:=by
 ext d4;refine wpAny_Assign_Name (Dk ?cJ ?dT) hs;obtain⟨y,H1,I1,r1,q1⟩:=_z;exact cG I1 hN hi hx r1 (fun s2 I2=>⟨_,H1,I2,q1⟩) hf
theorem Av[?c5][?b4]{te:TE}{pos':Pos}(hN:X.N.Nodup)[?d8][?v2][?uW][?d1]:?oU:=VF hN hi hx he hs hf
universe e9
section
variable{X:Cx}[?N]
def UU(c:TT)(tb:TS):TS:=fun D σ H=>∃W:?j8,(∃m,?u1)/\∀m σ H,?u1 →
 c σ H fun b H1=>if b=true then ∃N:?z,(∀σ' H',?jH->∃m',m'<m/\W m' σ' H')/\tb ?tP σ H1 else ?r9
theorem Sa{c:Expr}{body:?bK}{tc:TT}{tb:TS}[?vJ](hc:?tG)(hb:?uA):PS X (.While c body [] pos) (UU tc tb):=by
 intro Ac s σ H D I h;obtain⟨W,⟨m0,w0⟩,turn⟩:=h;refine wpAny_While (codeAny_whileLoop (fun n s'=>∃σ' H',Bk X Ac σ' H' s'/\W n σ' H') ?_ m0 ⟨σ,H,I,w0⟩);rintro n s1 ⟨σ1,H1,I1,w1⟩;refine qm6 hp (Dk (hc Ac s1 σ1 H1 _ I1 (turn n σ1 H1 w1)) fun b s2 _z=>?_);obtain⟨H2,I2,q2⟩:=_z;cases b with
 | true =>
   obtain⟨N,hN,q2⟩:=q2;rw[if_pos rfl];refine qm6 hp (Dk (hb Ac s2 σ1 H2 _ I2 q2) fun f s3 q3=>?_);cases f with
   | next =>
     ext uO
   | cont =>
     ext uO
   | brk=>exact q3
   | ret v=>exact q3
 | false =>
   rw[?D qd6];exact qv0 ⟨σ1,H2,I2,q2⟩
universe e9
structure It where
 go:?sE
 yld:Nat->Hp->?dQ
 stop:?sE
def P5[?Z](H:Hp)(b:Addr):Prop :=
 ?A/\?cP/\?h2/\(b∈X.ex\/?vZ b)/\?mH
theorem Bk.fpOk{X:Cx}{Ac:Bg}{σ:St}{H H':Hp}[?b2]{b:Addr}[?e](hb:s.heap.objs.size<=b)(hn:?gX):?t7:=by
 refine⟨hn,qk1 (qb3 I.lt hb),I.nofs hb,?G (qa6 I.sz hb),fun x c e z=>?_,fun p hp z=>?_⟩
 . obtain⟨v,q⟩:=?fB;exact ?x2 q.lt (by rw[z];exact hb)
 . exact ?x2 (qb2 (?oB).1) (by rw[z];exact hb)
structure V2[?c3][?k](tg:Expr)(J:It)(fp:?B)(it:Addr)(tn:?nW):Prop where
 mem:it∈fp
 obj:∀i h,tn i h->∀b∈fp,∃o,?aX/\?nN
 keep:∀i h h',tn i h->(∀b∈fp,∀o,?aX->?g8)->tn i h'
 item:∀(X:Cx),?pY->X.w=w->X.K=K->?fQ->∀(i:Nat) [?C] [?eY],?p->(?jZ)->?jN->?pO →
  ?d ?cB X.A (pyNext ?cR) (fun r s1=>∃u,r=?r ∧
   ?d ?cB X.A (letOwnedTupleGo tg ?cR u) (fun _ s2=>YP X Ac σ u (J.yld i H) (tn ?e1 s2.heap) fp s2) E s1) E s
 done:∀(X:Cx),?pY->X.w=w->X.K=K->?fQ->∀(i:Nat) [?C] [?eY],?p->(?jZ)->?jN->?p1 →
  ?d ?cB X.A (pyNext ?cR) (fun r s1=>r=none/\?vX H s1) E s
 self:∀[?dA] (i:Nat) [?eU],?jN->Q ?cR s->?w3 ?cB (?k0 ?cR)
noncomputable abbrev TI:=?wE ?lH
def PIE[?Z](σ:St)(tg:Expr)[?d6](itv:Value)(s2:Shared):Prop :=
 ∃(it:Addr) (fp:?B) (tn:?nW) (J:It) (H':Hp),itv=?m it/\?qC/\V2 ?X X.w X.K tg J fp it tn/\tn 0 s2.heap/\(?pK)/\R J H'
def PI(X:Cx)(tg iter:Expr)(wi:TI):Prop :=
 ∀[?C] [?d6],?p->wi σ H R →
   ?vR (?U iter ?f) (fun v s1=>?d ?g X.A (?k0 v) (PIE X Ac σ tg R) ?h s1)
theorem IE{M:Model}[?t][?Q][?b2]{tg:Expr}{it:Addr}[?O]{o:Obj}{n:String}{vs:?bM}[?f0](ho:?cO it=?v)(hc:o.cls=?bF n)(hd:o.data=?eC vs)
 (hn:?vS n=false) (hQ:Q () s):?w3 M (letOwnedTupleGo tg ?cR u):=by
 unfold letOwnedTupleGo
 cases tg<;>first
  | exact ?iK
  | (cases u<;>first
      | exact ?iK
      | (refine qa7 (wpAny_load ho ?_)
         rw[hc,hd];show ?d M A (if (?vS n&&vs[0]?==?c (rawInt _))=true then _ else _) Q E s;rw[?D (by intro h;rw[hn,Bool.false_and]at h;cases h)];exact ?iK))
def xT[?k][?aI]:It :=
 ⟨fun i H=>∃xs x,?eI/\?cH,?xE ?eI,fun i H=>∃xs,?eI/\?rA⟩
def xS[?k][?aI]:It :=
 ⟨fun i H=>∃xs x,?cW/\?cH,?xE ?cW,fun i H=>∃xs,?cW/\?rA⟩
def SJ(lo:Int)(n:Nat):It:=⟨fun i _=>i<n,fun i H x H'=>H'=H/\x=?jV,fun i _=>n<=i⟩
theorem jA[?aF][?a0]{tg:Expr}(a it:Addr):?wZ ?eM h.IsListIter where
 mem:=?aA
 obj:=fun i h st b hb=>by
  ext hY
  ext uT
 keep:=?mS
 item:=by
  ext d0;obtain⟨xs,x,hq,hx⟩:=hg;obtain⟨its,rv,p,hz⟩:=?fO hq;obtain⟨u,hu,ru⟩:=?tM;ext d2;refine ?xW wpAny_pyNext_list_item ?lV;ext uG;exact⟨u,rfl,?w2 I.list_inj⟩
 done:=by
  ext d0;obtain⟨xs,hq,hx⟩:=hg;obtain⟨its,rv,p,hz⟩:=?fO hq;ext d2;have hl:=rv.length;exact wpAny_pyNext_list_end ?c0 st ?lV (by simp;omega) ?j3
 self:=?wN wpAny_pyIter_listiter
theorem ER[?aF][?a0]{tg:Expr}(a it:Addr):?wZ ?e2 h.IsTupleIter where
 mem:=?aA
 obj:=fun i h st b hb=>by
  ext hY
  ext uT
 keep:=?mS
 item:=by
  ext d0;obtain⟨xs,x,hq,hx⟩:=hg;obtain⟨its,rv,p,hz⟩:=?iL;obtain⟨u,hu,ru⟩:=?tM;ext d2;refine ?xW wpAny_pyNext_tuple_item (?x8 s.heap.IsTuple);ext uG;exact⟨u,rfl,?w2 I.tuple_inj⟩
 done:=by
  ext d0;obtain⟨xs,hq,hx⟩:=hg;obtain⟨its,rv,p,hz⟩:=?iL;ext d2;have hl:=rv.length;exact wpAny_pyNext_tuple_end ?c0 st (?x8 s.heap.IsTuple) (by simp;omega) ?j3
 self:=?wN wpAny_pyIter_tupleiter
theorem eS[?aF][?a0]{tg:Expr}(it:Addr)(lo:Int)(n:Nat):V2 P w K tg (?gT) [it] it (fun i h=>?rU h it (lo+(i:Nat)*1) (?b5-(i:Nat)) 1) where
 mem:=?aA
 obj:=fun i h st b hb=>by
  ext hY
  subst e
  exact⟨_,st,fun v z=>by
   have z':Data.fields _=Data.cell v:=z;cases z'⟩
 keep:=fun i h h' st k=>k it ?P _ st
 item:=by
  ext d0;ext d2;have W:=Walks.range (prog:=X.prog) (w:=X.w) ?c0 it lo 1 n;refine W.item i s _ _ hg st fun v h' tk hv st' kk=>?_;obtain⟨t,rfl⟩:=hv;have I1:?vX H ?mX:=?iR (fun b o hb e=>kk b o (?gW) e) f0 f1 f3 f4 f5;refine⟨_,rfl,IE (s:=?mX) (n:="range_iterator") st' rfl rfl ?eS ⟨?jV,H,I1,⟨t,?_⟩,?t8,st',?kR⟩⟩;rw[ql3]
 done:=by
  ext d0;ext d2;exact wpAny_pyNext_range_end ?c0 st (by have:n<=i:=hg;omega) ?j3
 self:=?wN wpAny_pyIter_rangeiter
section
variable{X:Cx}{tg:Expr}
inductive oU[?k][?d6](x:V)(H1:Hp):Prop
 | mk:∀a,?eG->((∃xs,SqL K H1 a xs))->(R (?eM) H1)->?mW
def tV[?k](tl:TE):TI:=?xG ?mW
inductive UJ[?k][?d6](x:V)(H1:Hp):Prop
 | mk:∀a,?eG->((∃xs,Dy K H1 a xs))->(R (?e2) H1)->?pN
def Ac3[?k](tl:TE):TI:=?xG ?pN
theorem QD[?vQ]:PI X tg l (tV X.K tl):=by
 ext uU;ext aD;ext v4;obtain⟨its,rv,p,hz⟩:=I1.list hq;refine qs9 ?lV ?_;refine(?wT jA);ext vE
 ext m0
theorem vH[?vQ]:PI X tg l (Ac3 X.K tl):=by
 ext uU;ext aD;ext v4;obtain⟨its,rv,p,hz⟩:=I1.tuple hq;refine qm3 (?x8 s1.heap.IsTuple) ?_;refine(?wT ER);ext vE
 ext m0
theorem cR[?aE]{R:?lH}[?Q]{lo hi:Int}{t u v:Tok}{tk:Nat}[?e](h1:-(?a7)<=lo)(h2:lo<?a7)(h3:-(?a7)<=hi)(h4:hi<?a7)
 (q:R (SJ lo ?f9) H):?d ?g X.A (?k0 ?sK) (PIE X Ac σ tg R) E ?sD:=by
 refine wpAny_pyIter_range (IsRange.new ..) (small_one h1 h2 h3 h4) ?_;have I1:?vX H ?sD:=?kM ?l3
 refine⟨?kE,[?kE],_,_,H,rfl,
  I1.kept (t':=tk) ?l3,eS _ lo ?f9,?_,?dW,q⟩
 . have e1:?tW=lo:=?aA
   have e2:((?f9:Nat):Int)-?j4=Builtin.Range.rangeSize lo hi 1:=by rw[rangeSize_one];split<;>omega
   show ?rU _ _ (?tW) (((?f9:Nat):Int)-?j4) 1;rw[e1,e2];exact ?gP
 . have e:b=?kE:=?gW
   ext m0
inductive OT[?d6][?b0](H1:Hp):Prop
 | mk:∀j:Int,(vs=[?i j])->(-(?a7)<=j)->(j<?a7)->(R (SJ 0 j.toNat) H1)->?oH
def Ac5(ta:TA):TI:=?xD ?oH
inductive OS[?d6][?b0](H1:Hp):Prop
 | mk:∀i j:Int,(vs=?k9)->((-(?a7)<=i/\i<?a7/\-(?a7)<=j/\j<?a7))->(R (SJ i (j-i).toNat) H1)->?nB
def Ac4(ta:TA):TI:=?xD ?nB
theorem Cm{a:Expr}[?v6](ha:PA X [a] ta)(hs:?bD [a] ?f=[?rD]:=by rfl):PI X tg (?wA ?dO [a]) (Ac5 ta):=by
 intro Ac s σ H R I h;refine Call_ (Iy I hg hm boot_range (qf1 (Dk (ha pos Ac s σ H _ I h) fun us s1 _z=>?_) hs rfl));obtain⟨vs,H1,I1,r1,q1⟩:=_z;obtain⟨j,e,q1,q2,q⟩:=q1;subst e;cases r1 with
 | cons r rr =>
   cases rr;ext d5;exact call_range_1 (cR I1 O9m O9m q1 q2 (by simpa using q))
theorem l8{a b:Expr}[?v6](ha:PA X [a,b] ta)(hs:?bD [a,b] ?f=[?rD,?o5]:=by rfl)(hs2:?bD [b] ?f=[?o5]:=by rfl) :
 PI X tg (?wA ?dO [a,b]) (Ac4 ta):=by
 intro Ac s σ H R I h;refine Call_ (Iy I hg hm boot_range (qf1 (Dk (ha pos Ac s σ H _ I h) fun us s1 ⟨vs,H1,I1,r1,q1⟩=>?_) (by rw[hs,hs2]) (by rw[hs2];rfl)));obtain⟨i,j,e,⟨q1,q2,q3,q4⟩,q⟩:=q1;subst e;cases r1 with
 | cons r rr =>
   cases rr with
   | cons r' rr =>
     cases rr;ext d5;obtain⟨t',rfl⟩:=r';exact call_range_2 (cR I1 q1 q2 q3 q4 q)
def Aq7(wi:TI)(g:TG)(tb:TS):TS:=fun D σ H=>wi σ H fun J H1=>∃W:?fC,(∃m,W 0 m σ H1)/\∀i m σ H,?hF →
 (?p1/\?bZ)\/(?pO/\∃N:?z,?fP/\∀x H',J.yld i H x H'->?gV)
def Xf(fp:?B)[?aJ]:Bg:=fp.filterMap fun b=>(?h3).map fun o=>?fR
theorem M4{fp:?B}{h:Heap}[?i9](hb:b∈fp)(e:?aX):?fR∈Xf fp h:=List.mem_filterMap.mpr ⟨b,hb,by rw[e];rfl⟩
theorem JQ{fp:?B}{h:Heap}{p:?u7}(hp:p∈Xf fp h):p.1∈fp/\?eH p.1=?c p.2:=by
 obtain⟨b,hb,e⟩:=List.mem_filterMap.mp hp;cases q:h.get? b with
 | none=>rw[q]at e;cases e
 | some o =>
   rw[q]at e;have e':?fR=p:=qd3 e;subst e';exact⟨hb,q⟩
theorem Bk.pinned[?aE]{fp:?B}[?e](hf:?jZ)(ho:∀b∈fp,∃o,?b6/\?nN):Bk X (Ac++Xf fp ?o) σ H s :=
 ?oI fun p hp=>?sI (fun z=>?cY p (qg1 _ z)) fun z=>by
  obtain⟨hb,e⟩:=JQ z;obtain⟨f0,f1,f2,_⟩:=hf p.1 hb;obtain⟨o,e',d⟩:=ho p.1 hb;rw[e]at e';cases e';exact⟨e,f0,f1,f2,d⟩
theorem Bk.unpinned{Ac pl:Bg}{σ:St}{H:Hp}[?b2](I:Bk X (Ac++pl) σ H s):?p:=?oI fun p hp=>?cY p (qg1 _ (qm5 _ hp))
theorem Cn{iter:Expr}{body:?bK}{wi:TI}{g:TG}{tb:TS}[?N][?vJ][?i7](hi:PI X tg iter wi)(hg:?sA)(hb:?uA)
 (hs:∀x,foldedSetIterable iter ?f x=pure x:=by intro _;rfl):PS X (.For tg iter body [] pos) (Aq7 wi g tb):=by
 ext d4;refine wpAny_For (Dk (?w8 hi h) fun v s1 h1=>Dk h1 fun itv s2 h2=>?_) hs;obtain⟨it,fp,tn,J,H2,e,I2,T,st2,f2,W,⟨m0,w0⟩,turn⟩:=h2;subst e;have eU:∀{H':Hp},(?gM)->?pK:=fun hn b hb=>⟨hn b hb,(f2 b hb).2⟩
 refine codeAny_forLoop_any (fun n s'=>∃i σ' H',?oM/\tn i ?cI/\(?gM)/\W i n σ' H') ?_ m0 ⟨0,σ,H2,I2,st2,fun b hb=>(f2 b hb).1,w0⟩;rintro n s3 ⟨i,σ3,H3,I3,st3,oZ,w3⟩;rcases turn i n σ3 H3 w3 with⟨stop,qn⟩|⟨go,N,hN,step⟩
 . refine qm6 hp (Dk (T.done X rfl rfl rfl hc i Ac s3 σ3 H3 ?h I3 (eU oZ) st3 stop) ?s1);obtain⟨hr,I4⟩:=_z;subst hr;exact qv0 ⟨σ3,H3,I4,qn⟩
 . refine qm6 hp (Dk (T.item X rfl rfl rfl hc i Ac s3 σ3 H3 ?h I3 (eU oZ) st3 go) ?s1);obtain⟨u,hr,h4⟩:=_z;subst hr;refine qm6 hp (Dk h4 fun _ s5 _z=>?_);obtain⟨x,H5,I5,r5,y5,uZ,WY⟩:=_z;have I5':=I5.pinned (eU WY) (T.obj _ _ uZ);refine qm6 hp (Dk (hg _ s5 σ3 H5 x u _ I5' r5 (step x H5 y5)) fun _ s6 _z=>?_);obtain⟨σ6,H6,I6,q6⟩:=_z;refine qm6 hp (Dk (hb _ s6 σ6 H6 _ I6 q6) fun f s7 q7=>?_)
   have again:∀{σ7:St}{H7:Hp},Bk X (Ac++Xf fp s5.heap) σ7 H7 s7->N σ7 H7->∃m,m<n/\∃i σ' H',Bk X Ac σ' H' s7/\tn i s7.heap/\(?gM)/\W i m σ' H':=fun {σ7 H7} I7 n7=>by
    obtain⟨m',hm,w7⟩:=hN σ7 H7 n7;refine⟨m',hm,i+1,σ7,H7,?k8,T.keep _ _ _ uZ fun b hb o e=>(?pJ).1,?dW,w7⟩;obtain⟨o,e,d⟩:=T.obj _ _ uZ b hb;exact(?pJ).2.1
   cases f with
   | next=>ext vA
   | cont=>ext vA
   | brk=>obtain⟨σ7,H7,I7,q7⟩:=q7;exact⟨σ7,H7,?k8,q7⟩
   | ret v=>obtain⟨x7,σ7,H7,I7,r7,q7⟩:=q7;exact⟨x7,σ7,H7,?k8,r7,q7⟩
universe e9
theorem for_list[?a0][?b3][?c8][?lY](hl:∀i σ H,?kU->?cD->?eI)
 [?uH] :
 ∃W:?fC,(∃m,W 0 m σ H)/\∀i m σ H,?hF →
   (?xO ?eM)\/(?w1 ?eM ?eM):=by
 ext uE
 . ext uD
 . have e:?mJ:=O9m
   ext v3
theorem RM[?a0][?b3][?c8][?lY](hl:∀i σ H,?kU->?cD->?cW)
 [?uH] :
 ∃W:?fC,(∃m,W 0 m σ H)/\∀i m σ H,?hF →
   (?xO ?e2)\/(?w1 ?e2 ?e2):=by
 ext uE
 . ext uD
 . have e:?mJ:=O9m
   ext v3
theorem Cs{lo:Int}{n:Nat}[?lY]
 (hs:∀i σ H,i<n->?cD->g (?jV) σ H ?pQ) (hd:∀σ H,Pv n σ H->?bZ) :
 ∃W:?fC,(∃m,W 0 m σ H)/\∀i m σ H,?hF →
   (?xO ?gT)\/(?w1 ?gT ?gT):=by
 refine⟨fun i m σ H=>m=n-i/\i<=n/\?cD,⟨n,?aA,qa8 _,h0⟩,?_⟩;rintro i m σ H ⟨rfl,hi,p⟩;by_cases hlt:i<n
 . refine ?wD hlt n;obtain⟨e,y⟩:=y;subst e y;exact hs i σ _ hlt p
 . have e:i=n:=O9m
   subst e;exact ?j ⟨?fK,?t2⟩
noncomputable abbrev R2:=V->?dH
def OpR(X:Cx)(f:?qK)(r:R2):Prop :=
 ∀[?C] (x y:V) (v u:Value) (Q:VK),?p->?l9->?h0->r x y H Q →
   ?vR ?iS ?bW
def UnR(X:Cx)(f:?iY)(r:?dH):Prop :=
 ∀[?C] (x:V) (v:Value) (Q:VK),?p->?l9->r x H Q →
   ?vR (f v) ?bW
def E8(X:Cx)(f:Value)(r:?kX):Prop :=
 ∀[?C] [?c7] [?c4] (Q:VK),?p->?b9->r xs H Q →
   ?vR (call f us) ?bW
def tOp(r:R2)(ta tb:TE):TE:=fun σ H Q=>ta σ H fun x H1=>tb σ H1 fun y H2=>r x y H2 Q
def tUn(r:?dH)(ta:TE):TE:=fun σ H Q=>ta σ H fun x H1=>r x H1 Q
inductive IrI(C:?k2)[?i8][?i6]:Prop
 | mk:∀i j,?l1->(y=?i j)->(C i j)->?mP->?u3
def rI(C:?k2)[?i8]:R2:=fun x y H Q=>?u3
inductive Ai3[?i8][?i6]:Prop
 | mk:∀i j,?l1->(y=?i j)->?mP->?tA
def vE[?i8]:R2:=fun x y H Q=>?tA
inductive IrU(g:?iE)(x:V)(H:Hp)(Q:VK):Prop
 | mk:∀i,?l1->(Q (g i) H)->?sT
def rU(g:?iE):?dH:=fun x H Q=>?sT
section
variable[?vO][?N]
theorem XM[?c2][?eX]{R:V->?dQ}[?e]
 [?vH] [?aZ][?i2]
 [?uN] :
 ?nS:=by
 ext vB;ext aD;ext uJ
theorem Bp{op:Operator}{r:R2}(ho:OpR X (?cS op) r)[?c2]:?x1 (.BinOp a op b pos) (tOp r ta tb):=by
 ext I;exact wpAny_BinOp (?w7 u)
theorem Lx{op:UnaryOp}{r:?dH}(ho:UnR X (unaryOp op) r)[?iA]:?x1 (?l7 op a pos) (tUn r ta):=by
 ext I;exact ?nY (Dk ?eJ fun v s1 ?e4=>ho Ac s1 σ H1 x v Q I1 r1 q1)
theorem opI[?i2]{C:?k2}{g:?qY}
 (rule:∀[?mD] [?eU],C i j->?qH) :
 OpR X f (rI C ?sV):=by
 ext hW;obtain⟨i,j,rfl,rfl,hc,q⟩:=h;ext eZ;ext s;exact rule i j t t' s _ _ hc ?tC
theorem ZY[?i2]{g:?qY}
 (rule:∀[?mD] [?eU],?qH) :
 OpR X f (vE ?sV):=by
 ext hW;obtain⟨i,j,rfl,rfl,q⟩:=h;ext eZ;ext s;exact rule i j t t' s _ _ ?tC
theorem vM[?i2]{g:Int->?pR}
 (rule:∀[?mD] [?eU],Q (?g6 ?bJ) s->?oE) :
 ?w9 f ?bJ:=by
 ext hW;obtain⟨i,j,rfl,rfl,q⟩:=h;ext eZ;ext s;exact rule i j t t' s _ _ ⟨.bl ?bJ,H,I,rfl,q⟩
def A79(i j:Int):Prop:=0<j/\?q3
def XX(i j:Int):Prop:=(-(?gG)<i/\i<?gG)\/(-(?gG)<j/\j<?gG)
theorem XX.ok{i j:Int}(h:XX i j):IntMulOk i j:=by
 rcases h with⟨h1,h2⟩|⟨h1,h2⟩
 . exact .of_left (intBits_le_64 h1 h2)
 . exact .of_right (intBits_le_64 h1 h2)
theorem Ei:OpR X (?cS .Add) (vE (?xP (i+j))):=?w6 ZY add_int
theorem K9:OpR X (?cS .Sub) (vE (?xP (i-j))):=?w6 ZY sub_int
theorem V8:OpR X (?cS .FloorDiv) (rI A79 (?xP (i / j))):=opI fun i j _ _ _ _ _ hc q=>by
 have h1:?tT:=hc.1;have h2:?q3:=hc.2;exact floordiv_int O9m (by rw[qg8 i ?g4];exact q) (?j (PyProof.noPylong_small O9m))
theorem J9:OpR X (?cS .Mod) (rI (fun _ j=>0<j) (?xP (i%j))):=opI fun i j _ _ _ _ _ hc q=>by
 have h1:?tT:=hc;exact mod_int' O9m (by rw[Int.fmod_eq_emod_of_nonneg i ?g4];exact q)
theorem unI{f:?iY}{g:?r2}
 (rule:∀(i:Int) (t:Tok) [?eU],Q (?i (g i) s.toks) ?cA->?xM (f ?hH)) :
 UnR X f (rU fun i=>?i (g i)):=by
 intro Ac s σ H x v Q I rx h;obtain⟨i,rfl,q⟩:=h;ext eZ;exact rule i t s _ _ ⟨?i (g i),H,?dJ,?b8,q⟩
theorem Hm:UnR X (unaryOp .USub) (rU fun i=>?i (-i)):=unI fun _ _ _ _ _ q=>neg_int q
universe e9
def scal:V->V->?cF
 | ?w,?w=>true | ?w,?cC=>true | ?cC,?w=>true | ?w,?cL=>true | ?cL,?w=>true | ?w,?bE=>true | ?bE,?w=>true
 | ?cC,?cC=>true | ?cL,?cL=>true | ?bE,?bE=>true | .byt _,.byt _=>true
 | ?cC,?bE=>true | ?bE,?cC=>true | ?cL,?bE=>true | ?bE,?cL=>true
 | _,_=>false
structure A74[?i6]:Prop where
 mk::(left:?u5) (right:Q (.bl (?rL)) H)
def rEq:R2:=fun x y H Q=>A74 x y H Q
structure A73[?i6]:Prop where
 mk::(left:?u5) (right:Q (.bl (! ?rL)) H)
def rNe:R2:=fun x y H Q=>A73 x y H Q
theorem iI{i j:Int}:?K (V.int i=V.int j)=?iM:=by
 rw[qm0];simp
theorem nV{i j:Bool}:?K (V.bl i=V.bl j)=?iM:=by
 rw[qm0];simp
theorem iH{i j:Str}:?K (V.str i=V.str j)=?iM:=by
 rw[qm0];simp
theorem II{i j:?pI}:?K (V.byt i=V.byt j)=(i.toList==j.toList):=by
 rw[qm0];cases i;cases j;simp
section
variable[?vO][?N]
theorem Ck[?aE]{Q:VK}{k k':Bool}[?e](q:Q (?hJ) H)(e:k=k'):EP X Ac σ Q (?g6 k') s:=by
 subst e;exact⟨?hJ,H,I,rfl,q⟩
theorem E5:OpR X (?aM .Eq) rEq:=by
 intro Ac s σ H x y v u Q I rx ry h;obtain⟨hs,q⟩:=h;cases x with
 | non =>
   cases rx;cases y with
   | non=>cases ry;exact PySem.EqNone.eq_none_none ?n
   | bl j=>cases ry;exact PySem.EqNone.eq_none_bool ?n
   | int j=>ext s;exact PySem.EqNone.eq_none_int ?n
   | str j=>ext s;exact PySem.EqNone.eq_none_str ?n
   | _=>ext aC
 | bl i =>
   cases rx;cases y with
   | non=>cases ry;exact PySem.EqNone.eq_bool_none ?n
   | bl j=>cases ry;exact eq_bool (Ck I q nV)
   | str j=>ext s;exact PySem.EqMixed.eq_bool_str ?n
   | _=>ext aC
 | int i =>
   obtain⟨t,rfl⟩:=rx;cases y with
   | non=>cases ry;exact PySem.EqNone.eq_int_none ?n
   | int j=>ext s;exact eq_int (Ck I q iI)
   | str j=>ext s;exact PySem.EqMixed.eq_int_str ?n
   | _=>ext aC
 | str i =>
   obtain⟨t,rfl⟩:=rx;cases y with
   | non=>cases ry;exact PySem.EqNone.eq_str_none ?n
   | bl j=>cases ry;exact PySem.EqMixed.eq_str_bool ?n
   | int j=>ext s;exact PySem.EqMixed.eq_str_int ?n
   | str j=>ext s;exact eq_str (Ck I q iH)
   | _=>ext aC
 | byt i =>
   obtain⟨t,rfl⟩:=rx;cases y with
   | byt j=>ext s;exact PySem.W.eq_bytes (Ck I q II)
   | _=>ext aC
 | _=>ext v0
theorem Lz:OpR X (?aM .NotEq) rNe:=by
 intro Ac s σ H x y v u Q I rx ry h;obtain⟨hs,q⟩:=h;cases x with
 | non =>
   cases rx;cases y with
   | non=>cases ry;exact PySem.EqNone.ne_none_none ?n
   | bl j=>cases ry;exact PySem.EqNone.ne_none_bool ?n
   | int j=>ext s;exact PySem.EqNone.ne_none_int ?n
   | str j=>ext s;exact PySem.EqNone.ne_none_str ?n
   | _=>ext aC
 | bl i =>
   cases rx;cases y with
   | non=>cases ry;exact PySem.EqNone.ne_bool_none ?n
   | bl j=>cases ry;exact ?wL ne_bool nV
   | str j=>ext s;exact PySem.EqMixed.ne_bool_str ?n
   | _=>ext aC
 | int i =>
   obtain⟨t,rfl⟩:=rx;cases y with
   | non=>cases ry;exact PySem.EqNone.ne_int_none ?n
   | int j=>ext s;exact ?wL ne_int iI
   | str j=>ext s;exact PySem.EqMixed.ne_int_str ?n
   | _=>ext aC
 | str i =>
   obtain⟨t,rfl⟩:=rx;cases y with
   | non=>cases ry;exact PySem.EqNone.ne_str_none ?n
   | bl j=>cases ry;exact PySem.EqMixed.ne_str_bool ?n
   | int j=>ext s;exact PySem.EqMixed.ne_str_int ?n
   | str j=>ext s;exact ?wL ne_str iH
   | _=>ext aC
 | byt i =>
   obtain⟨t,rfl⟩:=rx;cases y with
   | byt j=>ext s;exact ?wL PySem.W.ne_bytes II
   | _=>ext aC
 | _=>ext v0
theorem Sf:?w9 (?aM .Lt) (?K (i<j)):=?w6 vM lt_int
theorem HQ:?w9 (?aM .LtE) (?K (i<=j)):=?w6 vM le_int
theorem SY:?w9 (?aM .Gt) (?K (j<i)):=?w6 vM gt_int
theorem vL:OpR X (?aM .Is) (fun x y H Q=>y=?w/\Q (.bl (?K (x=?w))) H):=by
 ext hW;obtain⟨rfl,q⟩:=h;cases ry;refine is_none_gen (Ck I q ?_)
 cases x<;>first
  | (cases rx;rfl)
  | (ext eZ;rfl)
theorem Bn(b:Expr){op:CmpOp}(h:?p9:=by decide)(h2:?p2:=by decide):?hG:=by
 ext uS
 ext uR
 cases b<;>simp[behindInMarks,e1,e2]
theorem M1{op:CmpOp}{r:R2}[?m8][?c2][?vP]:?wS PE (tOp r ta tb):=by
 ext I;exact wpAny_Compare1 (?w7 u) hm
inductive OL[?f2](x:V)(H':Hp):Prop
 | mk:∀k,(x=?hJ)->(Q k H')->?tH
def ZE(t:TE):TT:=fun σ H Q=>t σ H fun x H'=>?tH
theorem Bh{op:CmpOp}{r:R2}[?m8][?c2][?vP]:?wS PT (ZE (tOp r ta tb)):=by
 ext I
 refine ?q9 (Dk ?eJ fun v s1 ?e4=>Dk (?vY hb _) fun u s2 ?sB =>
  Dk (?x6 _) fun c s3 ?n6=>?_) hm
 subst e;cases r3;exact qj3 ⟨H3,I3,q3⟩
inductive iT(r':R2)(tc:TE)(σ:St)(Q:VK)(y:V)(z:V)(H3:Hp):Prop
 | mk:∀k,(z=?hJ)->((if k=true then tc σ H3 fun w' H4=>r' y w' H4 Q else Q (?h4) H3))->?mT
def uY(r r':R2)(ta tb tc:TE):TE:=fun σ H Q=>ta σ H fun x H1=>tb σ H1 fun y H2=>r x y H2 fun z H3=>?mT
theorem mH{op op':CmpOp}{r r':R2}[?m8](ho':OpR X (?aM op') r')[?c2](hc:?x1 c tc)
 (hm:lastMarks ?rR [b,c]=false:=by with_unfolding_all rfl):?x1 (?h1 a ?rR [b,c] pos) (uY r r' ta tb tc):=by
 ext I
 refine Compare_chain (Dk ?eJ fun v s1 ?e4=>chain_link (Dk (?vY hb _) fun u s2 ?sB =>
  Dk (?x6 _) fun d s3 ?n6=>?_)) hm
 subst e;cases r3;refine qj3 ?_;cases k with
 | false=>exact ite_ff ⟨?h4,H3,I3,rfl,q3⟩
 | true=>exact ite_tt (chain_last (Dk (hc Ac s3 σ H3 _ I3 q3) fun w' s4 ⟨z',H4,I4,r4,q4⟩=>ho' Ac s4 σ H4 y z' u w' Q I4 r2 r4 q4))
theorem aX:(sizeLine:Nat)<2 ^ 63:=by rw[sizeLine_eq];decide
theorem P6{x:V}[?M](r:?F [x] us):∃u,us=[u]/\?bR:=by
 cases r with
 | cons r1 r2=>cases r2;exact⟨_,rfl,r1⟩
theorem CD{x y:V}[?M](r:?F [x,y] us):∃u w',us=[u,w']/\?bR/\?a3 y w':=by
 cases r with
 | cons r1 r2 =>
   cases r2 with
   | cons r3 r4=>cases r4;exact⟨_,_,rfl,r1,r3⟩
theorem KW[?i7]:?wK "max" (if j > i then j else i):=by
 ext uL;refine max_two_ints ?c0 ?tR
 by_cases hj:j > i
 . rw[?fT,?fT];exact ?b8
 . rw[?hC,?hC];exact ?b8
theorem kW[?i7]:?wK "min" (if j<i then j else i):=by
 ext uL;refine min_two_ints ?c0 ?tR
 by_cases hj:j<i
 . rw[?fT,?fT];exact ?b8
 . rw[?hC,?hC];exact ?b8
universe e9
structure gP[?aJ](x dx C:Addr)(mA:?bH):Prop where
 obj:?eH x=?c (?hK C dx)
 ns:?lI
 ne:?l4
theorem JT{h:Heap}{dx:Addr}[?mC](n:?lI):∃od,?eH dx=?c od/\?s2:=by
 obtain⟨o,es,ep,ho,hd,hk,_,hm⟩:=n;refine⟨o,ho,fun name=>?_⟩;have e:=hm ?R;unfold nsFind findBy at e;rw[←Array.find?_toList]at e;unfold PySem.W.lookIn;rw[hd];dsimp only;split
 . rename_i y q
   rw[q]at e;exact ?pA
 . rename_i q
   rw[q]at e
   have a:?pP (·.refKey)=false:=by
    rw[List.any_eq_false];intro y hy;obtain⟨z,t,hkey⟩:=hk y (Array.mem_toList_iff.mp hy);simp[DictEntry.refKey,hkey]
   have a':¬?pP (·.refKey)=true:=by rw[a];exact qd6
   rw[?D a'];exact ?pA
theorem gP.look{h:Heap}{x dx C:Addr}[?mC](I:gP h x dx C mA):∃od,PySem.W.InstAt h x (?hK C dx) C (?c od)/\?s2 :=
 let ⟨od,ho,hl⟩:=JT I.ns
 ⟨od,⟨I.obj,rfl,rfl,ho⟩,hl⟩
section
variable[?mB][?t][?Q][?b2][?a0]{x dx C f:Addr}[?mC]{name:Str}{v:Value}
theorem rK{expr:Bool}[?aZ][?uV][?vN]
 (ha:?sC=?dL) (hv:?iG=?a4) (hv':?mU v=true) (h:Q v ?cA) :
 ?w3 ?aK (?l8 ?cK ?R expr):=by
 ext m6;exact PySem.W.get_value X J (qu3 hg).1 (PySem.W.findObj_own hh ha rfl (by rw[hl,hv])) hv' h
theorem nO[?vF][?uV]
 (hf:?sC=?h8) (ht:?lU) (hv:?iG=none) (h:Q (?m f,[?m x]) s) :
 ?w3 ?aK (?jW ?cK ?R pl):=by
 ext m6;exact PySem.W.method_fn X J (qu3 hg).1 (qu3 hg).2 hf (qv6.mp ht) (by show(?n2).map (·.isSome)=?c ?bY;rw[hl,hv];rfl) h
theorem pQ{ns:?H}[?f0](X:?e0)(I:?oV)
 (hs:?wC K) (hp:?rS) (ht:?r1 K C ?R=?dL) [?vN]
 (hw:?kV mA ns) (hsz:ns.length<=sizeLine)
 (h:∀h',gP h' x dx C (fun y=>if y=name then ?a4 else mA y)->?jE dx ?o h'->Q () { s with heap:=h',toks:=s.toks+2 }) :
 ?w3 ?aK (setAttr ?cK ?R v):=by
 ext m6;refine PySem.W.set_plain X J hs (PySem.W.osa_open (s:=?cA) (r:=none) X J hp ht fun b=>?_);obtain⟨cd,hc,hd'⟩:=PySem.W.any_some hh;have hx:?cO x=?c ⟨?hI,?c dx,.plain,#[]⟩:=I.obj;refine qa7 (qc1 (qa7 (qa7 (wpAny_loadPart hx (qa7 (PySem.W.Looks.here (s:=?cA) (PySem.W.looks_clsIn X hc) ?_))))));rw[hd'];refine qc1 (a:=?c dx) (qa7 (qc1 (qa7 ?_)));refine wpAny_nsSet1 (s:=?cA) I.ns fun h' hn2 hs2=>?_;obtain⟨oD,esD,epD,hoD,hdD,hcD⟩:=hn2.count (PySem.Within.cons ?R v hw);refine qa7 (wpAny_lookBehind hoD (by rw[hdD];exact pastItsLine_dict (qa6 hcD (by rw[qc8];omega))) ?_);exact qc1 (h _ ⟨(hs2.2 _ (?fF I.ne)).trans I.obj,hn2,I.ne⟩ hs2)
theorem MV{R:Result->?cG}{vs:?u}[?i5](X:?e0)(hm:?u4)
 (hi:?wW "__init__"=?h8) (hf:PySem.W.typeIn K ?V=?c (?bF "function"))
 (h:?kQ ?aK (?xA vs) (.call ?V ⟨?m ?T::vs,kw⟩) (PySem.W.InitBack ?T R)
   ?q2) :
 ?kQ ?aK A (.call ?S ⟨vs,kw⟩) R s:=by
 obtain⟨hh,g,d,t,os⟩:=s;exact PySem.W.make_core (PySem.W.makes_of X hm) (PySem.W.looks_findIn X hi) (fun self=>PySem.W.bind_fn X self hf) ?fM h
universe e9
def putF(f:Str)(v:V):?aP->?aP
 | []=>[(f,v)]
 | (g,x)::r=>if g=f then(g,v)::r else(g,x)::?oP
theorem An(f g:Str)(v:V):∀fs:?aP,(?kC).lookup g=if g=f then ?a4 else ?gL g
 | []=>by
   show List.lookup g [(f,v)]=_;by_cases h:g=f
   . have hb:(g==f)=true:=qv6.mpr h;simp only[List.lookup,hb,?aO h]
   . have hb:(g==f)=false:=qj8.mpr h;simp only[List.lookup,hb,?D h]
 | ?hE=>by
   have ih:=An f g v r;ext lX
   . rw[?hA];by_cases h:g=k
     . have hb:?qW:=qv6.mpr h;simp only[List.lookup,hb,?aO (h.trans hk)]
     . have hb:?q4:=qj8.mpr h;simp only[List.lookup,hb,?D (fun e:g=f=>h (e.trans hk.symm))]
   . rw[?fI];by_cases h:g=k
     . have hb:?qW:=qv6.mpr h;simp only[List.lookup,hb,?D (fun e:g=f=>hk (h.symm.trans e))]
     . have hb:?q4:=qj8.mpr h;simp only[List.lookup,hb];exact ih
theorem T9(f:Str)(v:V):∀fs:?aP,f∈?tS (·.1)/\∀g,g∈?gN (·.1)->g∈?tS (·.1)
 | []=>⟨?oS,fun g h=>?e5⟩
 | ?hE=>by
   obtain⟨i1,i2⟩:=T9 f v r;ext lX
   . rw[?hA];subst hk;exact⟨?aA,fun g h=>by simpa using h⟩
   . rw[?fI];refine⟨?_,fun g h=>?_⟩
     . rw[qd5];exact qc7 _ i1
     . rw[qd5]at h ⊢;rcases ?lO h with e | e
       . exact qb6.mpr (?j e)
       . exact qc7 _ (i2 g e)
theorem B8(f:Str)(v:V):∀fs:?aP,(?kC).length<=fs.length+1
 | []=>?oS
 | ?hE=>by
   have ih:=B8 f v r;ext lX
   . rw[?hA,qc8,qc8];omega
   . rw[?fI,qc8,qc8];omega
theorem N1.some_of{v:V}{o:?dI}(r:N1 ?dY o):∃u,o=?r/\?aQ:=by
 cases o with
 | none=>exact ?tU
 | some u=>exact⟨u,rfl,r⟩
theorem N1.none_of{o:?dI}(r:N1 ?cQ o):o=none:=by
 cases o with
 | none=>rfl
 | some u=>exact ?tU
theorem kF{v:V}[?O][?c6]:?mU u=true:=by
 cases v with
 | non=>cases (?wO ?n8);rfl
 | bl b=>cases (show u=Value.bool b from r);rfl
 | int i=>obtain⟨t,e⟩:=(?wO ?mQ);cases e;rfl
 | str x=>obtain⟨t,e⟩:=(?wO ?tJ);cases e;rfl
 | byt b=>obtain⟨t,e⟩:=(?wO ?oT);cases e;rfl
 | flt b=>obtain⟨t,e⟩:=(?wO ?rP);cases e;rfl
 | ref a=>cases (?wO ?dU);rfl
 | ty n=>cases (show u=Value.type n from r);rfl
section
variable[?aF]{H H':Hp}{h h':Heap}{a C dx:Addr}{fs fs':?aP}
theorem AZ(hok:?jS)(e:H a=?fE):∃mA,gP h a dx C mA/\(?j7)/\?kV mA (?gN (·.1))/\?nH/\?tV:=by
 obtain⟨d,z,ne,ob,mA,n,r,q⟩:=(show ?aR P w H h a (?l2) from hok a _ e)
 exact⟨mA,⟨ob,n,ne⟩,r,q,z,d⟩
universe e9
structure Cls[?k](C:Addr):Prop where
 pg:?kW K C Str.empty=true
 hd:?rZ
 po:?rS
 sa:?wC K
theorem Cls.get[?a0]{C:Addr}(c:Cls K C)(f:Str):?kW K C f=true:=c.pg
def Dd[?k](C:Addr)(f:Str):Prop:=?wW f=?dL
theorem Dd.taker[?a0]{C:Addr}{f:Str}(n:?kS):?r1 K C f=?dL:=by
 unfold PySem.W.takerIn;rw[show ?wW f=?dL from n];rfl
structure OJ[?k](C:Addr)(m:Str)(f:Addr):Prop where
 at_:?wW m=?h8
 fn:?lU
 kp:?lB K ?V=true
section
variable{X:Cx}[?aE]{a C dx:Addr}{fs:?aP}{f:Str}{v:V}[?t][?Q]
theorem fT{b:Bool}[?aZ][?e][?m3](n:?mI)(l:?mY)
 (h:∀u s',?vX H s'->?aQ->Q u s'):?w3 ?g (?l8 ?dP f b):=by
 obtain⟨mA,O,r,_,_,_⟩:=?kZ;obtain⟨u,hu,ru⟩:=N1.some_of (v:=v) (o:=mA f) (by rw[←l];exact r f);exact rK ?dX O (c.get f) c.hd n hu (kF ru) (h u _ (?dJ) ru)
theorem Rh{m:Str}{g:Addr}[?vF][?e][?m3](k:?tX)(l:?j9)
 (h:Q (?m g,?cN) s):?w3 ?g (?jW ?dP m pl):=by
 obtain⟨mA,O,r,_,_,_⟩:=?kZ;have hn:mA m=none:=N1.none_of (by rw[←l];exact r m);exact nO ?dX O (c.get m) k.at_ k.fn hn h
theorem EW{y:V}[?O][?f0][?e][?m3](n:?mI)(hl:?n1)(ry:?h0)
 (h:∀s',?vX (upd H a (.ins C dx (?jB))) s'->?jG):?w3 ?g (setAttr ?dP f u):=by
 obtain⟨mA,O,r,wi,_,ho⟩:=?kZ;have hz:(?gN (·.1)).length<=sizeLine:=by rw[qa2,sizeLine_eq];omega
 refine pQ ?dX O c.sa c.po n.taker c.hd wi hz fun h' O' sb=>h _ ?_;have hd:∃o,?eF dx=?v:=let ⟨o,_,_,e',_⟩:=O'.ns;⟨o,e'⟩
 refine I.write (x:=a) (e:=dx) (by rw[e];exact True.intro) (?G ho) (fun b q hb z=>?t0 z) hd ?_;refine⟨by rw[Al O.ne];exact ho,?_,O.ne,O'.obj,_,O'.ns,fun g=>?_,fun g hg=>?_⟩
 . have:=B8 f y fs;omega
 . show N1 ((?jB).lookup g) (if g=f then ?r else mA g);rw[An];by_cases q:g=f
   . rw[?aO q,?aO q];exact ry
   . rw[?D q,?D q];exact r g
 . by_cases q:g=f
   . rw[q];exact(?sY).1
   . refine(?sY).2 g (wi g fun z=>hg ?_);show(if g=f then ?r else mA g)=none;rw[?D q];exact z
theorem Bk.made[?e]:Bk X Ac σ (upd (upd H ?a8 (.own ?T)) ?T (?u0))
 ?q2:=by
 have e1:(?dK).get? ?a8=?c ?kY:=qb7 ?o rfl
 have e2:(?s0).get? ?T=?c (?kO):=by
  have:=qb7 (?dK) (o:=?kO) rfl
  rwa [qi0]at this
 have e3:(?dK).Ns ?a8 (?f8):=⟨?kY,#[],_,e1,rfl,(fun e he=>?y he ?P),fun _=>rfl⟩
 have I1:=I.laid (a:=s.heap.objs.size) (o:=.own ?T) (h':=?dK) (t':=s.toks) (fun b u q=>qa5 _ q) ?bV ⟨_,e1⟩;refine I1.laid (a:=?g7) (o:=?u0) (t':=s.toks) (fun b u q=>qa5 _ q) (ql0 (qi0 _ _)) ?_;have ne:s.heap.objs.size≠?g7:=qc5 (Nat.lt_succ_self _);refine⟨by rw[Al ne,Ab],qa8 _,ne,e2,?f8,(Heap.Ns1.of_empty e3).at fun o q=>qa5 _ q,fun _=>True.intro,fun y hy=>?y rfl hy⟩
theorem sA[?mB]{env:Env}[?b4]{f:Str}[?N][?b2][?aZ](hb:?nR e f env (?kJ)=?kJ)
 (h:?d ?aK A (?kJ) (fun o s₁=>?d ?aK A (?l8 o f true) Q E s₁) E s):?w3 ?aK (?U (?bA e f pos) env) :=
 Attribute_any_ h (by rw[arm_eval_Attribute,hb])
universe e9
inductive ItFld[?k](f:Str)[?f3]:Prop
 | mk:∀a C dx fs v,?eG->(?lP)->(Cls K C)->(?kS)->(?mY)->(Q v H1)->?n7
def zH[?k](ta:TE)(f:Str):TE:=?vU ta ?n7
inductive UE[?k](f:Str)(D:Ends)(σ:St)(y:V)(x:V)(H2:Hp):Prop
 | mk:∀a C dx fs,?eG->(H2 a=?fE)->(Cls K C)->(?kS)->(?n1)->(D.nx σ (upd H2 a (.ins C dx (?jB))))->?q8
def ZM[?k](ta tv:TE)(f:Str):TS:=fun D σ H=>tv σ H fun y H1=>ta σ H1 fun x H2=>?q8
section
variable{X:Cx}{o e value:Expr}{f:Str}{pos pos' tpos:Pos}{ta tv:TE}
theorem vJ(he:?x1 e ta)(hb:?nR e f ?f (?cT)=?cT):?x1 (?bA e f pos) (zH X.K ta f):=by
 ext I;refine sA hb (Dk ?cJ ?kP);obtain⟨x,H1,I1,rx,a,C,dx,fs,v,ex,ea,c,n,l,q⟩:=_z;subst ex;obtain rfl:?dU:=rx;exact fT I1 ea c n l fun u' s2 I2 ru=>⟨v,H1,I2,ru,q⟩
theorem vG(ha:?rT)(hv:?x1 value tv)(hs:?kD value (?c (?nM)) ?g9 ?f=?fS):PS X (?iP [?nM] value pos) (ZM X.K ta tv f):=by
 ext d4;refine plainObj_wpAny_Assign_Attribute (Dk (?w8 hv h) fun u s1 ⟨y,H1,I1,ry,q⟩=>Dk (ha Ac s1 σ H1 _ I1 q) fun ov s2 _z=>?_) hs;obtain⟨x,H2,I2,rx,a,C,dx,fs,ex,ea,c,n,l,q2⟩:=_z;subst ex;obtain rfl:ov=?dS a:=rx;exact EW I2 ea c n l ry fun s3 I3=>⟨σ,_,I3,q2⟩
theorem tK{pl:?lJ}{m:Str}{apos:Pos}{args:?e7}[?eX][?aZ]{te:TE}[?d8][?e]
 (h:te σ H fun x H1=>∃a C dx fs g,x=?aU/\?lP/\?lG/\?tX/\?j9 ∧
   ∀s1,?vX H1 s1->?d ?g X.A (?gC pos (?m g) ?cN (?dV pos (?bD args ?f)) ?gK) Q ?h s1)
 (ht:?nD=(do
   let ov ←?cT
   ?kN
   let ?kH ←?lR
   ?wB (?bD args ?f))) :
 ?vR (?nD) Q:=by
 refine ?pB;obtain⟨x,H1,I1,rx,a,C,dx,fs,g,ex,ea,c,k,l,q⟩:=_z;subst ex;obtain rfl:?dU:=rx;exact Rh I1 ea c k l (q s1 I1)
universe e9
section
variable{X:Cx}[?aE][?t][?Q][?aZ]{c:Value}{b:Bool}
universe e9
structure F6(k:Nat)[?dA]:Prop where
 hd:?o3
 dp:A.depth+3*k+5<recursionLimit
 un:A.units+16*k+200<cLine
 gd:A.guards=?c []
theorem F6.mono{j k:Nat}[?t](r:?dM)(h:j<=k):F6 j A:=⟨r.hd,?sM,?qN,r.gd⟩
theorem F6.deeper{k:Nat}[?t](r:?u2)(env:Env):F6 k (?jP env) :=
 ⟨r.hd,by have:=r.dp;show ?tE+3*k+5<_;omega,by have:=r.un;show A.units+3+16*k+200<_;omega,r.gd⟩
theorem fO[?t]{C:Addr}[?M][?i5]:(?dG).depth=?tE:=by
 ext uI
theorem dM[?t]{C:Addr}[?M][?i5]:(?dG).guards=A.guards:=by
 ext uI
theorem FN[?t]{C:Addr}[?M][?i5]:(?dG).units=A.units+1:=by
 first | rfl | simp[Around.under,Code.cUnits,Code.frames,Code.isFrame]
theorem F6.make{k:Nat}[?t](r:?u2)(C:Addr)[?c4](kw:?hO):F6 k (?dG) :=
 ⟨r.hd,by have:=r.dp;rw[fO];omega,by have:=r.un;rw[FN];omega,by rw[dM];exact r.gd⟩
theorem F6.depth{k:Nat}[?t](r:?dM):A.depth<recursionLimit:=?sM
theorem F6.units{k:Nat}[?t](r:?dM):A.units+64<cLine:=?qN
theorem F6.u8{k:Nat}[?t](h:?dM):A.units+8<cLine:=by
 have:=h.units;omega
def uV:TA:=fun _ H Q=>Q [] H
def ZI(ta:TE)(tr:TA):TA:=fun σ H Q=>ta σ H fun x H1=>tr σ H1 fun xs H2=>Q (x::xs) H2
section
variable{X:Cx}[?b4][?d9]{te:TE}{t:TA}[?N]
theorem Ae:PA X [] uV:=fun _ _ _ _ H Q I h=>qt9 ⟨[],H,I,?E,h⟩
theorem Aa(ha:?nO)(hr:?lA)(hs:?lT:=by rfl):PA X ?a1 (ZI te t):=by
 intro pos Ac s σ H Q I h;rw[hs];show ?d _ _ (spliced (?tY::?iZ)) _ _ s;refine qm4 (Dk ?eJ ?kP);ext aD;exact Dk (hr pos Ac s1 σ H1 _ I1 q1) fun us s2 ⟨xs,H2,I2,r2,q2⟩=>⟨x::xs,H2,I2,?J r1 r2,q2⟩
structure Ai1(Q:VK)[?c7](H1:Hp):Prop where
 mk::(left:?cM) (right:?xF ?fG)
def Aq2(t:TA):TE:=?wY Ai1
structure Ai2(Q:VK)[?c7](H1:Hp):Prop where
 mk::(left:?cM) (right:?xF ?gY)
def Aq6(t:TA):TE:=?wY Ai2
theorem D5{x1}(h:?lA):?x1 (.Tuple es x1 pos) (Aq2 t):=by
 intro Ac s σ H Q I hq;refine ?w0 wpAny_Tuple_spliced;ext uZ;refine(?x4 ?fG);exact⟨z,us,r,?rM⟩
theorem Gd(h:?lA):?x1 (.List es pos) (Aq6 t):=by
 intro Ac s σ H Q I hq;refine ?w0 wpAny_List_spliced;ext uZ;refine(?x4 ?gY);exact⟨z,us,0,r,?gP⟩
universe e9
noncomputable abbrev Sp:=?q->Hp->VK->?xY XK
noncomputable abbrev oW:=?bI->Hp->Shared->XK->?bQ
structure GQ[?c3][?k][?hZ][?dA][?d7][?b1](H:Hp):Prop where
 frames:A.frames=?c ?x
 mod:Mod K mg ?a5
 bs:∀b o,base.get? b=?v->?qA
 bsz:base.objs.size<=s.heap.objs.size
 funs:?fD ?a5 ?x
 frf:∀b∈LI ?x,?A
 hok:Qk P w H ?o
 bare:?nL
def CE[?d7][?c3](H:Hp)[?b1](Q:VK)(u:Value)[?aG]:Prop :=
 ∃v H',?r7/\?sX/\Un (LI ?x) [] H H' ?o ?cI/\Qk P w H' ?cI/\?aQ/\?h7
def CR(CX:oW)[?d7][?c3](H:Hp)[?b1](Q:VK)(E:XK)(r:Result)[?aG]:Prop :=
 match r with
 | .ok (.ret u)=>?r6
 | .ok _=>False
 | .error e=>CX ?x H s E e s'
structure By[?c3][?k][?hZ](CX:oW)(k:Nat)(f:Addr)(fd:FuncData)(ps:?H)(sp:Sp):Prop where
 len:?mE
 run:∀[?dA] [?d7] [?b1] (H:Hp) (args:Args) [?c4] [?b0] (Q:VK) (E:XK),?dM->?jK->BindsTo s fd args ?hB->?kT->?jX →
  ?kQ ?cB A (.call ?V args) (CR CX ?x P w H s Q E) s
theorem GQ.make[?aF][?m2][?t]{outer:?bI}[?b2]{H:Hp}(e:?jK)(C:Addr)[?c4](kw:?hO) :
 GQ P w K mg ?a5 (?dG) ?x s H:=⟨by first | exact e.frames | (simpa[Around.under,Code.envs,Code.isFrame,pushEnvs]using e.frames),e.mod,e.bs,e.bsz,e.funs,e.frf,e.hok,e.bare⟩
section
variable{X:Cx}{Ac:Bg}{σ:St}{H:Hp}{s s':Shared}
theorem Bk.env0[?e]:GQ ?X X.w X.K X.mg ?bG X.A ?bX s H :=
 ⟨I.ok.frames,I.ok.mod,I.bs,qa6 ?nT I.sz,I.stack,I.stkFree,?aT,?b7⟩
theorem Bk.after{Q:VK}[?O][?e](h:CE ?bX ?X X.w H s Q u s'):?r0:=by
 obtain⟨v,H',os,bare,un,hok,r,q⟩:=h;obtain⟨hh,g,d,t,os'⟩:=s';obtain rfl:os'=s.os:=os;exact⟨v,H',I.call (h':=hh) (g':=g) (d':=d) (t':=t) (ch:=[]) un hok bare (fun b z=>?y z ?P),r,q⟩
universe e9
def tCall[?i4](t:TA):TE:=fun σ H Q=>t σ H fun vs H1=>sp ?bS H1 Q E
inductive oN(C:Addr)(m:Str)[?i4](t:TA)(σ:St)[?f3]:Prop
 | mk:∀a dx fs,?eG->(?lP)->(?j9)->(t σ H1 fun vs H2=>sp (x::?bS) H2 Q E)->?s3
def GX(C:Addr)(m:Str)[?i4](ta:TE)(t:TA):TE:=?vU ta ?s3
def SQ(C:Addr)[?i4](t:TA):TE:=fun σ H Q=>t σ H fun vs H1=>∀x dx,H1 x=none->H1 dx=none->?l4 →
 ?w4 H1
def Mi[?k](fd:FuncData)(ps:?H)(ds:?u):Prop :=
 ∀[?b1] [?c4],?e0->?mO->BindsTo s fd ?qZ (ps.zip (us++ds))
theorem Mi.all[?a0]{fd:FuncData}{ps:?H}(h:∀us:?u,us.length=ps.length->bindArgs fd ?qZ=pure ?hB):Mi K fd ps []:=fun s us _ hl=>by
 rw[qp9]at hl ⊢;exact .of_eq (h us hl)
def Rq(CX:oW)(X:Cx)(E:XK):Prop:=∀(Ac:Bg) (σ:St) (H:Hp) [?b1] (e:Value) [?aG],?p->CX ?bX H s E e s'->?h e s'
section
variable[?vL]{ps:?H}{sp:Sp}{dvs:?q}{ds:?u}{E:XK}{x m:Str}{p pos apos:Pos}{e o:Expr}[?d9]{ta:TE}{t:TA}
theorem AN[?aE]{Q:VK}[?M]{vs:?q}[?d3][?iC][?eV]
 [?e] [?iB] (h:sp ?bS H Q E):?vR (call ?V us) ?bW:=by
 have r2:?F ?bS (us++ds):=r.append hd;have hl:?mO:=by rw[←r2.length];exact F.len _ _ _ _ h
 refine wpAny_call (codeAny_mono (F.run X.A X.stack s H ⟨us,[]⟩ (us++ds) (vs++dvs) Q E hr I.env0 (hb s us I.kIn hl) r2 h) fun r s' hq=>?_);cases r with
 | error e=>exact hx Ac σ H s e s' I hq
 | ok fl =>
   cases fl with
   | ret u=>exact I.after hq
   | next=>exact ?lN
   | brk=>exact ?lN
   | cont=>exact ?lN
theorem qI[?d3][?iC][?f6](hm:?eN=?c ?V)(hk:?lB X.K ?V=true)[?eV]
 [?f1] [?hU] [?hR] (hpl:?eE (·.1)=false:=by rfl) :
 ?xU (tCall sp dvs E t):=by
 ext I;refine qs4 (Wb I hg hm ?_ hdb);refine ?vV hk;exact AN F hr hb hd hx I1 r q
theorem qG[?v5][?d3][?iC][?eV][?f1]
 (hst:?lT:=by rfl) (hpl:?eE (·.1)=false:=by rfl)
 (ht:?U (?w5 o ?a1) ?f=(do
   let ov ←?kA
   ?kN
   let ?kH ←?lR
   ?wB (?sQ)):=by rfl) :
 ?xV ?a1 t:=by
 ext I;ext uF;refine qq4 (first:=?cN) (h₀:=X.base) ?lE hm.kp (Dk (ha pos Ac s1 σ H1 _ I1 q) fun us s2 ⟨vs,H2,I2,r,q2⟩=>⟨I2.kIn,?_⟩) hst hpl;exact AN (us:=?aU::us) (vs:=?aU::vs) F hr hb hd hx I2 (?J rfl r) q2
theorem MF[?v5][?d3][?iC][?eV]
 (ht:?U (?w5 o []) ?f=(do
   let ov ←?kA
   ?kN
   let ?kH ←?lR
   ?wB (?bD [] ?f)):=by rfl) :
 ?xV [] uV:=by
 ext I;ext uF;exact PySem.W.callWith_K0 (first:=?cN) I1.kIn hm.kp (AN (us:=?cN) (vs:=?cN) F hr hb hd hx I1 (?J rfl ?E) q)
structure Mk[?k](C f:Addr):Prop where
 makes:?u4
 init:?wW "__init__"=?h8
 fn:?lU
 kp:?lB K ?S=true
theorem lX[?aE]{Q:VK}[?M]{vs:?q}(M:?o4)[?d3](hr:?nX)(hb:?tZ)(hd:?oF)
 (hx:?sF) [?e] [?iB]
 (h:∀x dx,H x=none->H dx=none->?l4->?w4 H) :
 ?vR (call ?S us) ?bW:=by
 have hq:=h ?T ?a8 (?jJ (qn0 _)) (?jJ ?bV) (qc5 (Nat.lt_succ_self _));have I2:=Bk.made (C:=C) I;have r2:?F (?pE::?bS) (?dS ?T::(us++ds)):=?J rfl (r.append hd)
 have hl:(?jR++ds).length=ps.length:=by
  have e:=r2.length;rw[F.len _ _ _ _ hq]at e;exact e.symm
 refine wpAny_call (MV (f:=f) ?dX M.makes M.init (qv6.mp M.fn) (codeAny_mono (F.run _ ?bX _ _ ⟨?jR,[]⟩ (?dS ?T::(us++ds)) _ _ E (hr.make C us [])
  (I2.env0.make C us []) (hb _ (?jR) I2.kIn hl) r2 hq) fun r s' hq'=>?_))
 cases r with
 | error e=>exact hx Ac σ _ _ e s' I2 hq'
 | ok fl =>
   cases fl with
   | ret u =>
     obtain⟨v,H',I3,rv,ev,q3⟩:=I2.after hq';subst ev;exact⟨rv,⟨?pE,H',I3,rfl,q3⟩⟩
   | next=>exact ?iD
   | brk=>exact ?iD
   | cont=>exact ?iD
theorem QG(M:?o4)[?d3](hr:?nX)[?f6](hm:?eN=?c ?S)[?eV]
 [?f1] [?hU] [?hR] (hpl:?eE (·.1)=false:=by rfl) :
 ?xU (SQ C sp dvs E t):=by
 ext I;refine qs4 (Wb I hg hm ?_ hdb);refine ?vV M.kp;exact lX M F hr hb hd hx I1 r q
universe e9
section
variable[?vL]{ps ks:?H}{sp:Sp}{E:XK}{x m:Str}{p pos apos kpos:Pos}{e o:Expr}[?d9]{kws:?l Keyword}{te ta:TE}{t tk:TA}{nm:?bC Str}
variable{g:?u->?u->?u}{gV:?q->?q->?q}
universe e9
structure FnScope(N P:?H)(sc:Scope):Prop where
 kind:?nJ
 co:?tL
 gen:?pD
 nd:N.Nodup
 pre:N.take P.length=P
 par:?sR
 nofree:?t4
theorem AB[?hX]:?wG ?eR
 | [],_,_=>rfl
 | ?oN,m,h=>by
   unfold bindL;rw[AB ?q1];split
   . have:x≠n:=?sU
     simp[this]
   . rfl
theorem Bf{N P:?H}{sc:Scope}(h1:?nJ:=by exact rfl)(h2:?tL:=by exact rfl)(h3:?pD:=by exact rfl)(h4:N.Nodup:=by decide +kernel)(h5:N.take P.length=P:=by exact rfl)
 (h6:?sR:=by decide +kernel) (h7:?t4:=by decide +kernel):FnScope N P sc:=⟨h1,h2,h3,h4,h5,h6,h7⟩
theorem aD[?hX]:?wG ?dC
 | [],_,_=>rfl
 | ?oN,m,h=>by
   unfold bindC;rw[aD ?q1];split
   . rfl
   . have:x≠n:=?sU
     simp[this]
theorem aC[?hX]{v:Value}:∀[?v7],P.Nodup->?uC->?lD->?a2 x=?bO →
 ?eR ?a2 (?j0) m x=?a4
 | [],_,_,_,_,h,_,_=>?e5
 | _::_,[],_,_,_,_,h,_=>?e5
 | p::P,?fW,0,m,nd,h1,h2,hk=>by
   simp at h1 h2;subst h1;subst h2;show ?xQ ?eR p;unfold bindL;rw[AB ?pC,?hA];simp
 | p::P,?fW,i+1,m,nd,h1,h2,hk=>by
   show ?xQ ?eR x;unfold bindL;exact ?wH aC
theorem AD[?hX]{v:Value}:∀[?v7],P.Nodup->?uC->?lD->?a2 x≠?bO →
 ?dC ?a2 (?j0) m x=?a4
 | [],_,_,_,_,h,_,_=>?e5
 | _::_,[],_,_,_,_,h,_=>?e5
 | p::P,?fW,0,m,nd,h1,h2,hk=>by
   simp at h1 h2;subst h1;subst h2;show ?xQ ?dC p;unfold bindC;rw[aD ?pC,?fI];simp
 | p::P,?fW,i+1,m,nd,h1,h2,hk=>by
   show ?xQ ?dC x;unfold bindC;exact ?wH AD
def start(N:?H)[?b0]:St:=vs.map ?c++List.replicate (N.length-vs.length) ?cQ
def GG(CX:oW)[?c3][?k][?hZ](N:?H)(qual:Str)(scope:Scope)(f:Addr)(cd:Value)[?dA][?d7][?b1](H:Hp)(E:XK):Cx where
 prog:=P
 w:=w
 K:=K
 mg:=mg
 base:=base
 A:=?qE
 N:=N
 s₀:=s
 H₀:=H
 env:=?dR
 outer:=outer
 stack:=?dR::outer
 ex:=[]
 calm:=true
 fn:=fun _=>true
 pn:=[]
 xe:=fun e s'=>?d ?cB (?qE) (leaving (?dR) e) (fun _ s''=>CX ?x H s E e s'') (fun e' s''=>CX ?x H s E e' s'') s'
theorem dZ{sc:Scope}{n:Nat}{x:Str}(h:?lF):∃c,(?p3 n ?sL []).lookup x=?fX:=by
 have q:=?rO ?sL n [] (?j h);exact Option.isSome_iff_exists.mp q
theorem jY{CX:oW}[?aF][?m2]{N ps:?H}{qual:Str}{scope:Scope}{f:Addr}{cd:Value}[?t]{outer:?bI}{s s1:Shared}{H:Hp}{E:XK}[?M]{vs:?q}
 (S:?n3) (hd:?o3) (e0:?jK) (hl:?qI) [?iB]
 (x:InCallC s ?a8 (?eR ?mL ?hB ?f8) (?oK) (?dC ?mL ?hB ?f8) s1) :
 Bk (?sJ) [] ?h6 H s1:=by
 have hpl:ps.length<=N.length:=by have:=?bU List.length S.pre;rw[qc4]at this;omega
 obtain⟨h1,tk,rfl,hk⟩:=x.done;have noA:∀b:Addr,b ∉ (?sJ).ex:=fun b z=>?y (show b∈([]:?B) from z) ?P
 refine⟨⟨e0.mod,S.kind,rfl,rfl,?fK,fun y z c h1 h2=>?_,fun y hy=>?_,fun y c _ h=>?_,fun _=>hd,Around.frames_deeper e0.frames,?G ?t8,?rQ,e0.bs,e0.bsz,fun b _ _=>noA b,?rQ,e0.funs,e0.frf⟩,
  rfl,e0.bare,?k7 hk,⟨_,x.toInCall.ns,fun i y v h1 h2 h3=>?_⟩,fun y c h=>⟨_,x.cell y c h⟩,?rB ?bV,fun y c h=>?_,fun p hp=>?y (show p∈([]:Bg) from hp) ?P,e0.hok.kept hk,?_⟩
 . exact name_of_addr x.apart (qm9 h1) (qm9 h2)
 . have hy:?e6 y=?eB\/?e6 y=?gE:=hy;rcases hy with hy | hy
   . exact dZ hy
   . exact ?y rfl (S.nofree _ (qm9 hy))
 . exact qd4 (x.above y c (qm9 h))
 . have hi:?q0:=by
    unfold start at h2;by_cases hi:?q0
    . exact hi
    . rw[qe0 (by simpa using hi)]at h2;rw[qs1]at h2;split at h2<;>cases h2
   have ha:?lD:=by
    unfold start at h2;rw[qd1 (by simpa using hi),qa9]at h2;cases e:vs[i]? with
    | none=>rw[e]at h2;cases h2
    | some a=>rw[e]at h2;cases h2;rfl
   obtain⟨u,hu,rv⟩:=r.get ha
   have hp:ps[i]?=?c y:=by
    rw[←S.pre,List.getElem?_take_of_lt ?g4];exact h1
   have ndP:ps.Nodup:=by rw[←S.pre];exact S.nd.sublist (List.take_sublist _ _)
   refine⟨u,rv,?_⟩;rcases S.par y (qc6 hp) with k | k
   . exact ?j ⟨k,aC ndP hp hu k⟩
   . obtain⟨c,e⟩:=dZ (n:=?g7) k;refine ?G ⟨?j k,c,e,?_⟩;have q:=x.cell y c e;rw[AD ndP hp hu (by show ?e6 y≠_;rw[k];decide)]at q;exact q
 . exact ?rB (qd4 (x.above y c (qm9 h)))
 . unfold start;show _=N.length;rw[qc0,qa2,qk2];omega
theorem Af4{CX:oW}[?aF][?m2]{k:Nat}{f:Addr}{name qual:Str}{params:Arguments}{body:?bK}{scope:Scope}{dV kV doc pm Ds ct oc:Value}{an od:OAddr}
 {osl:Qo}{N ps:?H}{sp:Sp} (lk:?t5 f=?c ⟨oc,od,.func (?wI ct),osl⟩) (hcd:W.codeIn K Ds ?aS=true) (S:?n3)
 (len:?mE)
 (hbody:∀[?dA] [?d7] [?b1] (H:Hp) [?b0] (Q:VK) (E:XK),F6 k (?jP (envOfC ?aS ?aY ?a8 f Ds))->?jX →
   ∃t,IQ (?vT Ds) body t/\t { nx:=fun _ H'=>Q ?w H',rt:=Q } ?h6 H) :
 By P w K mg ?a5 CX (k+1) f (?wI ct) ps sp:=by
 refine⟨len,fun A outer s H args us vs Q E hr e0 hb r IC=>?_⟩;have hl:=len _ _ _ _ IC;have KX:?e0:=e0.mod.kin.keeps ?n4;have lim:s.heap.NoLimit:=e0.mod.nolimit.keeps ?n4
 have hkind:∀y∈ps.zip us,?e6 y.1=?bO\/(?e6 y.1=?eB/\((?oK).lookup y.1).isSome=true):=fun⟨n,v⟩ hy=>by
  rcases S.par n (qp8 hy).1 with q | q
  . exact ?j q
  . exact ?G ⟨q,?rO _ _ _ (?j q)⟩
 refine codeAny_call_function hr.depth (KX _ _ lk) rfl S.co S.gen rfl (PySem.W.codeRec_of KX hcd) (hb _ _ _ _ ?_);refine wpAny_newFunctionEnv_cells S.kind hkind fun env he s1 x=>?_;subst he;refine⟨lim.keeps x.toInCall.keep,codeAny_func ?_⟩;obtain⟨t,ht,hq⟩:=hbody A ?x s H vs Q E (hr.deeper _) IC;have I:Bk (?vT Ds) [] ?h6 H s1:=jY S hr.hd e0 hl r x;refine qo3 (ht [] s1 ?h6 H _ I hq) (fun fl s' hs=>?_) fun e s' hs=>hs
 have fin:∀{σ':St}{H':Hp}{v:V}[?O],Bk (?vT Ds) [] σ' H' s'->?aQ->?h7->?r6 :=
  fun {σ' H' v u} J rv q=>⟨v,H',J.os,J.bare,J.base,J.hok,rv,q⟩
 cases fl with
 | ret u =>
   obtain⟨v,σ',H',J,rv,q⟩:=hs;exact fin J rv q
 | next =>
   obtain⟨σ',H',J,q⟩:=hs;exact fin (v:=V.non) (u:=Value.none) J rfl q
 | brk =>
   obtain⟨_,_,_,q⟩:=hs;exact ?eK q
 | cont =>
   obtain⟨_,_,_,q⟩:=hs;exact ?eK q
section
variable{X:Cx}{x:Str}{p pos:Pos}[?b4][?d9]{t:TA}{id T:String}{r:?kX}
def tCB(r:?kX)(t:TA):TE:=fun σ H Q=>t σ H fun vs H1=>r vs H1 Q
theorem Bb(hc:E8 X ?qJ r)(hm:?k3)(hv:?h9=?c ?qJ)[?f1](hg:?lK:=by rfl)[?i0][?hU]
 [?hR] (hpl:?eE (·.1)=false:=by rfl):?oZ:=by
 ext I;refine ?xL I;exact ?vW PyProof.Rows.callWith_builtin1
theorem Dr(hc:E8 X (?bF T) r)[?f6](hm:?k3)(hv:?h9=?c (?bF T))[?f1][?i0][?hU]
 [?hR] (hpl:?eE (·.1)=false:=by rfl):?oZ:=by
 ext I;refine ?xL I;exact ?vW qf1
universe e9
universe L2
namespace HT
open PySem PyProof.Rows
section
open PySem.SeqAt
open PySem.AutoSeq1 (wpAny_loadPart')
open PySem.MeetsSeq PySem.MeetsSeq2 PySem.MeetsSeq3
universe e9
section
variable[?mB][?t][?Q][?b2]
theorem cat_tup{t b:Addr}{vs ws:?u}[?aZ](ht:?g5 ?o t ?iX)(hb:?g5 ?o b ?jA)(hv:vs≠[])
 (h1:ws=[]->Q (?m t) s) (h2:ws≠[]->Q ?sK { s with heap:=?fH { cls:=?jT,data:=.seq ?n0 } })
 (hsz:vs.length+ws.length<=sizeLine):?w3 ?aK (?cS .Add (?m t) (?m b)):=by
 obtain⟨⟨cls,dd,data,sl⟩,ho,hc,n,hd⟩:=id ht;obtain⟨⟨Ag8,dd2,data2,sl2⟩,ho2,hc2,n2,hd2⟩:=id hb;simp only at hc hd hc2 hd2;subst hc hd hc2 hd2;have e:vs.toArray++ws.toArray=?n0:=?aA
 by_cases hw:ws=[]
 . exact ?qX ?s4 ?pL ?rV ?nK qs6 qr9 ?s6
    (tuple_addW1 t b ?iX ?jA n n2 dd dd2 sl sl2 (by simpa using hv) (by simp[hw])) ⟨ho,ho2,h1 hw⟩
 . refine ?qX ?s4 ?pL ?rV ?nK qs6 qr9 ?s6
    (tuple_addW2 t b ?iX ?jA n n2 dd dd2 sl sl2 (by simpa using hv) (by simpa using hw) (by rw[qb8,qb8];exact hsz)) ⟨ho,ho2,?_⟩
   rw[e];exact h2 hw
def sIx(n d:Nat):?jI->Nat
 | none=>d
 | ?a4=>?iT
theorem sIx_none(n d:Nat):sIx n d ?cQ=d:=rfl
theorem sIx_nat(n d k:Nat):sIx n d (?c ?iH)=min k n:=by
 show(if ?iH<0 then(?iH+?b5).toNat else min (k:Int).toNat n)=min k n;rw[?D ?g4,qf5]
theorem vB(n d:Nat)(hd:d<=n)(o:?jI):sIx n d o<=n:=by
 cases o with
 | none=>exact hd
 | some v =>
   show(?iT)<=n;by_cases hv:v<0
   . rw[?aO hv];omega
   . rw[?D hv];exact Nat.min_le_right _ _
theorem iK(v:Int)(n d:Nat):(if v<0 then max (v+?b5) 0 else min v ?b5)=((sIx n d ?dY:Nat):Int):=by
 show(if v<0 then max (v+?b5) 0 else min v ?b5)=(((?iT):Nat):Int)
 by_cases hv:v<0
 . simp only[?aO hv];omega
 . simp only[?D hv];omega
theorem gM(lo hi:?jI)(n:Nat):Builtin.Slice.sliceAdjust lo hi 1 ?b5=(((sIx n 0 lo:Nat):Int),((sIx n n hi:Nat):Int)):=by
 have h1:¬((1:Int)<0):=O9m
 unfold Builtin.Slice.sliceAdjust;simp only[h1,if_false];refine Prod.ext ?_ ?_
 . cases lo with
   | none=>rfl
   | some v=>exact iK v n 0
 . cases hi with
   | none=>rfl
   | some v=>exact iK v n n
end
mutual
#check(4,[?a,?b,some,∀(K:W.Frag),a,.inr,.int,?l V,.lst,.ref,.inl,?l Int,List,X.env,if_pos,.(by simp at hf hg;subst hf hg),wpAny,Reps,∀(I:?bG),a,∀(hK:X.K=K:=by rfl),a,pure,Fa fam w,?l ?eE,if_neg,decide,its.toArray,.tup,?l D,.(by obtain⟨t',rfl⟩:=ry),absurd,p.isList,.non,.builtin,(by omega),(?cK ?aU X.w),?c v,.seq,.(by simp),?a3 ?aL,(?c9),?xI w,none,.nil,X.xe,s.heap.objs.size,.str,.(by obtain⟨t,rfl⟩:=ry),∀(w:?k),a,List.replicate,(?K),Vals,bootBuiltins,?c j,?c .cell,sIx ?jP 0 lo,?aG H H',.type,"int",∀{Ac:Bg}{σ:St}{H:Hp}{s:Shared},a,.(by decide +kernel),I.tuple,.cons,I.list,.(by ext aO),deps ds,?c o,?aX Int,?c c,[a,b],Same,.(by ext a6),(i+1),bI h0,xs.length,"list",Hp->Prop,∀(x:V)(y:V)(H:Hp)(Q:VK),a,.(by simp<;>omega),?cU ?aK 0 lo,?j z,?x6 vs ds,fam<0,Pv i ys τ H,X.prog,I.kIn,"tuple",Option,true,H p=none,(?bF),(.ListComp elt [⟨tg,iter,ifs,0⟩] sc pos),?wX v d,(?h ys),_::_,?i a,.bl b,∀(x0:A0) (x1:A1) (x2:A2) (x3:A3) (x4:A4) (x5:A5) (x6:A6),a,.(by cases ry;obtain⟨its,_,p,_⟩:=?a7 q),.(by cases ry;obtain⟨its,_,p,_⟩:=?a9 q),.(by cases (show V.ref a=_ from h')),.(by obtain⟨a,vs,rfl,q,r⟩:=he),.(by obtain⟨a,vs,rfl,q,r⟩:=hy),∀(hu:X.A.units+n<cLine),a,∀{ws:Ar}{fam:Int},a,?i p,Bk X Ac σ H s,(n,k),w::r,name,(?h []),.bool,?c .free,(?kI),sIx ?jP ?jP hi,?g->?wF Hp VK,?a9 hq,.none,?l (Str × Addr),[a,b,c],(?u8),?l Str,∀(h0:p0) (h1:p1) (h2:p2) (h3:p3) (h4:p4) (h5:p5),a,.(by intro Ac s σ H x y v u Q I rx ry h),∀{vs:?g}{ds:?A},a,.(by have e:¬?eA:=O9m),∀{us:?v},a,∀{ns:?k},a,.(by rw[qb8,←hl]),∀{w:?k},a,∀{K:W.Frag},a,∀{fam:Int},a,0<fam,compareOp,(?i D),qa1 _,d::ds,"bool",Jc xs lo hi,(?b5),.Name x px,?i ?R,H l=?c (?h xs),lv fam w,?a3 ?aW,qa3.mp,model,(fun z=>?l2),f∈ws,(O9m),qual,(?N),(Fg ns),(ys++[y]),(1:Int),RelV x v,HT.sIx,?f i,(EP X Ac σ Q),s.heap.get?,qb6.mp,?c x,.(by cases (show y=?b6 from he);cases (show u=?e8 b from ry)),.(by cases (show y=?b6 from hy);cases (show v=?e8 b from ry)),.(by cases (show y=?E from he);cases (show ?nM from ry)),.(by cases (show y=?E from hy);cases (show v=Value.none from ry)),.(by simp only[qb6,qe7,or_false]at hf),∀(Ac:Bg) (s:Shared) (σ:St) (H:Hp),a,.(by cases (show ?g1 from he)),.(by cases (show ?g1 from hy)),.(by cases (show y=?S z from he)),.(by cases (show y=?S z from hy)),.(by simp only[eqD]),∀(ns:?k),a,∀{x:?k},a,∀{xs:?g},a,p'.isList,(e::es),?w ?G,(n:Int),bC ?gY H,pl.isList,eqDs a b,qJ.names.lookup,(?e2),C0 ws acc fs,Q ?b0 H',below,c.nocell,(tZ X H d),ns.map,SameX,?X xs us,?h ds,x∈acc,?c w,.function,2 ^ 63,List.range,V->?aD->?aD->?wF Hp VK,?j rfl,call_meets,?l Expr,(by ext eV),xs=[?bF],I.laid,Value.bool,(?tU .Add),fam=0,bB ws f,NO h0,?l α,Value,?cU ?aK ?aK hi,(x=?b5),?w ?W,?q X.K H vs ds,Tc H H',false,V->?bP,"str",⟨_,e,rfl⟩,?z ds,Ev ws rows,(?bL ?aY),NQ h0,.(by show ?nI;omega),.(by obtain⟨_,_,z,_⟩:=h';cases z),.(by intro Ac s σ H xs us Q I r h),.(by simp only[qb8]<;>omega),∀(xs:?g)(H:Hp)(Q:VK),a,.(by intro Ac s σ H Q I h),.(by have e':¬?aS:=O9m),∀(lo hi:?aD),a,∀(ds:?A),a,∀(fs acc:Ar),a,∀{vs:?g},a,.(nomatch h),qa5 _ e,?a7 hq,(?e6),Ao t u D σ H,fun _ _=>False,{ cls:=?L,data:=?J ?y n },Vl X sc N' cap,ht.typeIs,"isinstance",?a9 q',IsPart,X.env.kindOf,(?N).map,Array ?eE,hf b hb',IntsAre vs ns,(?h4),?l (?nG),?xC a ?fV,v=?b5,r.get,(x=?g0),I.hok.fresh,dep d,qa8 _,ds.any ?tN,h2 f hf,(?i7),(?cJ hi).1,H l=none,(Au st),W.fnOf x ?cO (Ic st) (Ga st) ?fY ?bR kV doc pm an Ds ct,?i l,y=?cV,Fh X sc N' ?lE s H fp,qb7 _ rfl,bs[i]?,fun d h=>Pq h,Shared->Prop,O6 ds es hl,?a7 q',(!eqD d e),.(by simpa using hx),True.intro,qd3 h1,env.cells,(?wX x d),s'.heap,s.heap.update,a.length=b.length,cells.lookup,codeAny,?X vs us,getItem,?rF es ?m,k.toNat,s.heap,?cH=0,(?cF),sc.names,(?i sl),?f n,fun b ob q=>qa5 _ q,ForInStep.yield,False.elim,K.lookup,s₁.heap,(?i it),?f b,qb2 e,Obj.mapSeq,?l Addr,Dy K H a xs,"dict",(c.cells I.ok),(?rQ),{ cls:=?L,data:=?J ?iG },Str->?aX ?eE,.(by have l1:=r.length;have l2:=r'.length;have l3:=rv.length;have l4:=HJ.length;have e1:its.toArray.size=ds.length:=?aA),∀{K:W.Frag}{a:Addr}{xs:?g}(Pv:?kW)(h0:?qW),a,.(by have e2:its'.toArray.size=es.length:=?aA),.(by obtain⟨b,ws,rfl,q',r'⟩:=he;cases ry),.(by obtain⟨b,ws,rfl,q',r'⟩:=hy;cases ry),.(by obtain⟨b,ws,z,q',r'⟩:=h';cases z),∀(hd:?xM ?aK),a,∀{te:TE}{D:Addr}{Q:?aM}{τ:St}{H:Hp},a,.(by (ext eT)),∀(x7:A7) (x8:A8) (x9:A9) (Qp:IY),a,.(by rcases ?cY h with e | e),.(by obtain⟨a,vs,e,q,r⟩:=h),∀(r:?eL),a,∀(hf:∀b∈fp,P5 X Ac H b),a,∀(cap:?l (?aX Nat)),a,∀(x0:A0) (x1:A1) (x2:A2),a,∀(c:?fA),a,∀(a:?s2),a,∀(hc:?oL),a,∀(its:?v),a,∀(ws:Ar)(fam:Int),a,∀{fp:?h3},a,∀(h:?r2),a,∀(x:?a2),a,⟨h0,?_⟩,-?dH<=i,(?j6 cpos (?gM)).any,w.length-1,.(nomatch hf),fun _=>none,imms ds,d0::ds,x∈?lN,?dS V.int,.tuple_str z t' p O9m,.bool_tuple c p O9m,Dy X.K H p ys,if c then A else B,.(by simp[h]),⟨e,?_⟩,s.heap.push,?w hk,vs.toArray,Rep X.K H x d,c.kind,Rep X.K H v e,H4 D=?c ?b3,?wI e,Ml ws fam,relabel sc ?m,s3.heap.objs.size,.none_str z t,.bool_int c i t,.str_str c t z t',.int_list c t ?D O9m,s₁.heap.Ns,hf b hb,?bH::r,?aG H H1,.tuple_none p O9m,?lJ∈sc.names,.int_int c t i t',fun _ _ z=>z.elim,⟨a,b,c,rfl⟩,(?m5)=true,.none_tuple p O9m,_::_::_::?b4,.str_tuple c t p O9m,backTo,((?nX:Nat):Int),.tuple_int i t' p O9m,?eE->?g6,?w hz,its.toArray.size,X.env.scope,.(by ext m7),.str_int c t i t',Dy K H p ys,.tuple_bool b p O9m,callerA,D->Bool,W.keepIn K (?i f)=true,if ?pL/\f ∉ acc then acc++[f] else acc,sp vs H Q E,.str_list c t ?D O9m,if w∈ws then ws else ?kM,rv.get,items.size,n=?a4\/n=?cB\/n=?eM\/n=?aW\/n=?aL\/n=?h5,.list_int i t' ?D O9m,seqIndex_of,ws.findIdx,.none_list ?D O9m,?n ?W,.(by simp at h),Ar->Ar->Ar,sc.names.all,x∈ws,St->?aM,.bool_str c z t,(n,NameKind.cell),fun _ _ _=>False,X.env.cells.lookup,.str_bool c t b,eqDs_refl,eqD e d,.int_tuple c t p O9m,H b=none,sliceBounds lo hi ?O n,Fa fam v,.int_none c t,Or.inr,ds[i]?=?c d,.int_str c t z t',q _ (?fQ ?M),.list_none ?D O9m,xs.map tI,(j:Int),i<=xs.length,[a,b,c,d],ws++[w],w.drop,⟨_,ho,rfl⟩,.none_int i t,N'.zip cap,Builtin.Slice.slicePlaces,List.foldl,.FunctionDef,?dL p.1,.int_bool c t b,Nat->?oO,ys.length<sizeLine,x∈?dN,.str_none c t,Ll.new _ _,?xC a xs,.(nomatch z),?c (?h us),?rF ?dF ?m,.bool_list c ?D O9m,.list_bool b ?D O9m,.(by simpa using hk),c7 X.env.cells ?gR [],(x,NameKind.free),TI K H v ns,?aD->?aM,acc++its,Rep.inj,H2.objs.size,.list_str z t' ?D O9m,A.units+1+?aB<cLine,H p=?c (?h xs),s.TypeIs,(n,NameKind.free),?xC p ys,.bool_bool c b,.same _,?xE acc l,x.2≠NameKind.cell,typeIs_int,its.toArray.size*k.toNat,.(by simp[Fg,eqDs]),∃a b c,w=?bT,s.heap.objs.size<=C,seqIndex_neg,H D=none,.tuple_list p ?dE O9m,SqL X.K H p ys,Reps.same,its.length,.list_tuple ?D p' O9m,∀f∈?N,?cM,fun f=>(?eB:Int),?f fam,{ s3 with heap:=s3.heap.push { cls:=?a3 "slice",data:=.fields #[vl,vu,?bR] } },?wZ k,.(by rcases Qq h with⟨h0,⟨a,rfl⟩|⟨a,b,rfl⟩|⟨a,b,c,rfl⟩|⟨a,b,c,d,rfl⟩⟩|⟨h0,rfl|⟨a,rfl⟩|⟨a,b,c,rfl⟩⟩|⟨h0,rfl|⟨a,rfl⟩|⟨a,b,rfl⟩|⟨a,b,c,rfl⟩⟩),.(by unfold Ax;rw[?dG,?eH,?dG];rfl),.(by have hc:(i=0/\j=1)\/(i=0/\j=2)\/(i=1/\j=2):=?t0),.(by obtain⟨its,r',pl,hz⟩:=?bQ;have hlen:=r'.length),.(by rcases hc with⟨rfl,rfl⟩|⟨rfl,rfl⟩|⟨rfl,rfl⟩),.(by intro Ac s σ H x v vl vu lo hi sl Q I rx hs pl pu h),.(by simp only[eqD];by_cases hl:?sY),∀{X:Cx}{sc:Scope}{N':?bV}{cap:?l (?aX Nat)},a,∀(x:V)(lo:?aD)(hi:?aD)(H:Hp)(Q:VK),a,∀{t u:TS}{D:Ends}{σ:St}{H:Hp}(P:?k0),a,.(by have:=(?q3).symm;simpa using this),.(by cases rx;obtain⟨u,rfl,ru⟩:=rv.one),.(by intro Ac s σ H x vs v us Q I rx rv h),.(by obtain⟨z,its,n,r,hl,e⟩:=I.lstM hH),.(by obtain⟨its,r',pl,hz⟩:=?f5),.(by by_cases hk:?j2),∀(hu:?rT),a,∀(x:V)(vs:?g)(H:Hp)(Q:VK),a,.(by cases (?xP vs [])),∀{c A B:Prop}[Decidable c],a,∀(hz:?oU),a,∀(h0:p0) (h1:p1) (h2:p2),a,∀(sc:Scope)(N':?bV),a,∀(h:?aR),a,∀{B:Addr}{H H1:Hp},a,∀vs H Q E,?jL->vs.length=ps.length,fun i=>(?g4).getD ?aY,i=xs.length,(x==("__debug__":Str))=false,⟨main,?_⟩,(vs=[y]),?xE [] l,hb b hb',wpAny_comprehension_free,⟨?f ys.length,H,I.tok _,⟨s.toks+1,by rw[qb8,hlen]⟩,q⟩,?wL (call (?F id) (v::us)),OP o i v H Q,uF K x lo hi H Q,(?c7 .Eq),{ cls:=?L,data:=?J its'.toArray n' },c.locals,?wW n,compPost,?cX b=?aC,(σ[j]?).join,IT K xs H Q,Str × NameKind,?x (a=b),X.A.units+1+?aB<cLine,hA b (by rw[q];simp),Pc ws w fam,∀C s₀ H₀ fp,PE (?wM C) elt te,u=Value.none,iU x vs H Q,?gJ (?cK P w) ?jH (.call (?i fa) ⟨[?b5],[]⟩) (fun r s'=>r=.ok (.ret ?eQ)/\OldK ?gY ?gF/\s'.os=s₁.os/\?t4) s₁,Q ?c8 H',fun r s'=>r=w/\?wY r s',ds[j]' ?cN,((?a1:Nat):Int),.(fun _ _ _ z=>by ext vJ),sc.kind=?dY,.(by simp[eqDs]at h),?y0 uI,sIx n 0 lo,qa6 (Ve xs lo hi) hz,(xS K a),UI K n neg x y H Q,PE X e te,x.2=NameKind.local->sc.names.lookup x.1=?c NameKind.local,us.toArray[j],?fE vl lo,UG x y H Q,TI K H' v ns,EK x vs H Q,F.slot_int_rmul,?y0 oR,fun f hf=>?_,I.ok.bsz,fun _ _ z=>no z,?wF Nat Heap,Fh X sc N' C s H fp,.(by rw[qc0];exact hz),4*l.length,PE X l tl,w.length=1,∀x∈sc.names,?lO,"__getitem__",X.calm=true,F6 k (A.deeper (envOfC ?cO ?fY ?R f Ds)),(sizeLine:Nat),?g->?k0,Pw _ _ hv,(a+b)%fam,I.hok p _ hk,?c (?I),oM Q x H1,?wW ys.length,?A->Bool,OR K xs H Q,W.codeIn K Ds ?cO=true,?C rfl z,PA X ?dF t,assignEach es ?m,.(by simpa using hv),slicePart_none,env.scope.kind==?dY,h'.objs.size,I.cell x a (ltc x a e),eq_of_beq,⟨o,ho,hd⟩,fun v s1 _z=>?_,its.toArray[m],?cX l=?c ?f9,∀b∈fp,b<s.heap.objs.size,{ s with heap:=h' },(fam:Int),us'.toArray[j],a b _ (?xU h) e,((i:Int)+(m:Int)*1).toNat,call_list_seq,?xH ?b3,?l Bool,Bk X Ac σ H' s',f ∉ ws,(Ys ?h6),⟨h1,?oA⟩,H ?R=none,.(fun _ e=>nomatch e),(?V k its).flatten,fitsIndex_both h1 h2,fun x H' y=>?_,?cX p=?c ?f9,?l9∈sc.names,uH K n x y H Q,?xI f,xs.eraseIdx,?X ys its',s.heap.objs.size+1,fun o=>o.bind fun j=>?nE,Rep K H' v d,(i+n).toNat,qd3 this,I7.pin (b,o) (qg1 _ (qg1 _ (M4 hb e))),?u9 b=?aC,.Pass ⟨0,0,0,0⟩,⟨_,ho2,rfl⟩,w.length=3,X.N[i]?=?cZ,pl.isList.typeIs,xs.take k,fun _ s'=>SP X Ac D .next s',(?fR<=n),?vZ qc1 ⟨_,rfl,qc1 h⟩,?f (j:Nat),seqIndex?,⟨o,e,c⟩,j<xs.length,(?j6 cpos (?l4)).all (fun x=>!x.1)&&(backToKw cpos (keywordEach [] ?m)).all (fun x=>x.1.isSome),Ew K x ?cO st f fd,Heap.get?_update_other,?y0 OQ,?y0 UH,eqDs_len,(?iN).names.lookup x=?a0\/(?iN).names.lookup x=?bM,OO K x lo hi H Q,?V k xs,.(by simpa using q7),fun τ2 H2=>tc τ2 H2 fun b H3=>if b=true then te τ2 H3 ?u2 else Pv ?aI ys τ2 H3,?X ys its,Builtin.List.listTooLong,Pv 0 [] τ H,eval o ?m,Dy K H a ?fV,Result->?g6,fun(m:Nat)=>xs[?pG]?,xs[i]?=?cZ,iR fam ws,?qG i ?aK,⟨rfl,fin⟩,pre_splitW hpre,EH K xs H Q,r x xs H Q,IrEqD K n x y H Q,(n,(env.cells.lookup n).getD 0)::acc,?q K H' vs ds,P σ' H',sIx n n hi,s.heap.IsSliceOf sl vl vu ?bR,ih _ ?u3,starEach,env.kindOf n==?a0,concat_meets,slot_list_getitem.lookup,?fR<=?aB,subscriptTail,EI K xs H Q,M6 ws fam 4 [w] [],(its.toArray.size:Int),fun x a e=>?_,.none_none,gI cap σ,(?dZ-1) / 8,?lD I hx' hy',∀σ' H',?rB->u D σ' H',⟨f,h,?K⟩,hd ys τ H p,.Subscript,∀C s₀ H₀ fp,PG (?wM C) tg g,?xH (?z ys),.(by simpa using e),(SJ lo n),Bk Y [] τ' H' s',?dT B H H1,q _ I.fresh,(?nS==0&&?cS==1&&(?bO-?a1)==items.size)=true,(xT K a),ws[k]?=?dX,∀C s₀ H₀ fp,yO (?wM C) ifs tc,fun w=>w==f,congrArg,Mi K fd ps [],(?N).length,Dy K H' a xs,h₁.get?,uG K x lo hi H Q,IU K n x vs H Q,tn 0 ?gO,(xs.length:Int),H b=?aC->H' b=?aC,?u4 I r r',w.length=0,fun τ2 H2=>te τ2 H2 ?u2,rX ?jC X.N sc N' cap=true,A.units+?aB<cLine,Gi.mpr rfl,.(by ext vI),∃c,env.cells.lookup n=?aE,Subscript_,?l WData,xs[f.toNat]?=?c q,qc7 _ hv,?wW xs.length,M6 ws fam n layer rows,.(by ext vO),ds.length=es.length,?y0 iW,.(by simp at hj;omega),qf8.mp hf,.(by rw[hC];exact qn0 _),fun m=>xs[i+m]?,AllBare s'.gens,EqD X H s d,"list.index",mainGlobals,(ns:?k),ns.length<=n,?xC p xs,.(by simpa using h),{ s with heap:=h₁,toks:=s.toks+([]:?l (Str × Value)).length },?gI x=?aE,.of_refs hab main,(a:Addr),H' p=?l3,?aX Expr,?cU ?lZ 0 lo,n<=1000000,fun z=>?_,?fE vu hi,?X xs its,fun e=>?k7,∃t,IQ (GG En P w K mg base N ?cO ?fY f Ds A outer s H E).nox (Ga st) t/\t { nx:=fun _ H'=>Q ?E H',rt:=Q } (start N vs) H,q p _ (Same.new hp) (.of Ab),Rep.same,?xI ?bT,t σ H Q,i<xs.length,binaryOp,(! ?x (V.int a=V.int b))=true,eqDs (Fg a) (Fg b),RG.extBut,Vis ?jC x,.compLoop,fun a e=>?_,∀d∈ds,?t5,fun y H4=>?iK/\?kX/\Pv ?aI ?cR τ2 (upd H4 D (?h ?cR)),fun m hm=>hl m (qc7 _ hm),Reps.inj,fun p hp=>?C hp (by simp[Fh]),subscriptTail_builtinR,subscripted,.(by decide),s₁.heap.get?,?x9 (k+1),i.toNat=j,oQ K xs H Q,cap.length=N'.length,Or.inl rfl,∀(hs:?x4 ?qT),a,.(by refine⟨fun i m ys τ H=>m=xs.length-i/\?kK/\?aT,⟨?aK,?K,?fS,h0⟩,?_⟩;rintro i m ys τ H ⟨rfl,hi,p⟩;have q:=hl i ys τ H hi p;by_cases hlt:?tT),.(by refine ?wC ⟨xs,xs[i],q,by simp[hlt]⟩ xs.length;obtain⟨e,y⟩:=y;subst e;exact hs i x ys τ _ (y xs q) p),∀(hs:?x4 ?sL),a,∀(hg:?rX) (ht:?s7) (he:?nL),a,.(by obtain⟨j,h1,h2,h3,h4,h5⟩:=iO he;obtain⟨w,ew,rw'⟩:=?fO h2;have hl:=r.length;have hn:=aX;have fin:?wY w s:=⟨z,H,I,rw',q⟩),.(by have I3:?pK:=I2.call' hos hun hok hbare (Bk.fpCh f2);have f3:P5 X Ac H' C:=I2.fpOk hC hHC;obtain⟨_,k1,_,k3,k4,k5⟩:=f3),∀(pa:PlainAttrs T)(slot:Slot T ?bJ id)(hty:typeOf (?F id)=?t (?a3 "method_descriptor"))(hm:MtR X id r)(ho:PE X o to)(ha:?oZ),a,∀(hline:(apos.endLine==cpos.line)=true:=by rfl) (hs:?l4=(?eK,eval e ?m)::?gM:=by rfl),a,.(by have hc:(i=0/\j=1)\/(i=0/\j=2)\/(i=0/\j=3)\/(i=1/\j=2)\/(i=1/\j=3)\/(i=2/\j=3):=?t0),.(by intro value slice Ac s σ H x y v u Q I rx ry h hs;obtain⟨p,xs,i,z,rfl,rfl,hq,he,q⟩:=h;cases rx),∀{x qual:Str}{st:Stmt}{f:Addr}{fd:FuncData}{N ps:?bV}{k:Nat}{sp:Sp}(F:?qK)(S:FnScope N ps ?fY),a,.(by rcases hc with⟨rfl,rfl⟩|⟨rfl,rfl⟩|⟨rfl,rfl⟩|⟨rfl,rfl⟩|⟨rfl,rfl⟩|⟨rfl,rfl⟩),.(by simp only[sliceBounds,HT.sIx,Option.getD_none,show ?cS > 0 by decide,if_true];by_cases h:i<0),.(by cases rx;cases ry;obtain⟨its,r1,p1,_⟩:=?a7 ha;obtain⟨its2,r2,p2,_⟩:=?a7 hb),∀{o e:Expr}{es:?e4}{to:TE}{t:TA}{name:Str}{apos cpos:Pos}{T id:String}{r:?eL},a,.(by refine⟨⟨o,e,ex.1⟩,fun a e2=>?_⟩;cases e2;exact⟨o,e,ex.2.1⟩),∀(Ds:Value) (A:Around) (outer:?l Env) (s:Shared) (H:Hp) (vs:?g) (Q:VK) (E:XK),a,∀(h:∀{N:?k0},(∀σ' H',?rB->N σ' H')->t { D with nx:=N } σ H),a,∀(hc:?oL)(hcap:?sM)(hi:PI X tg iter wi),a,.(by have hu':?nI:=by simp only[dep]at hn;omega),.(by obtain⟨_,_,_,_,o,_,_,e,ex,_⟩:=?oR;exact⟨o,e,ex⟩),.(by obtain⟨p,ys,rfl,hq,q⟩:=h;obtain⟨u,rfl,rx⟩:=P6 r;cases rx),.(by rw[Ph hl];have z:(ds.length==es.length)=false:=by simpa using hl),.(by have hu':?lG:=by simp only[dep]at hu;omega),∀(hbase:attributeBase o ?bJ ?m (?qX)=?qX:=by rfl),a,∀(hs:?rD)(pl:?o4)(pu:?tL),a,∀(h6:p6) (h7:p7) (h8:p8) (h9:p9) (h10:zY) (h11:ZX) (h12:zX) (h13:ZW),a,∀{prog:Program}{w:World}{A:Around}{E:?j9}{s:Shared},a,.(by obtain⟨oc,od,kV,doc,pm,an,Ds,ct,osl,rfl,lk,hcd⟩:=F.ex),.(by refine ?pN;rcases ?fU with z | z | z),∀(hs:∀x,foldedSetIterable iter ?m x=?t x:=by intro _;rfl),a,.(by obtain⟨it,fp,tn,J,H2,e,I2,T,st2,f2,hW⟩:=h2;subst e),.(by subst e;exact ?j ⟨⟨xs,q,?c9⟩,?rV⟩),∀{lo:Int}{n:Nat}(Pv:?kW)(h0:?qW),a,∀(hl:∀i ys τ H,?kK->?aT->?l1),a,.(by have hx':=hx;obtain⟨a,vs,rfl,q,r⟩:=hx;cases rx),∀(hl:∀i ys τ H,?kK->?aT->?h4),a,.(by simp only[qb6,qe7,or_false,or_self]at hf;subst hf),.(by unfold Ax;rw[?dG,?jV]),.(by obtain⟨p,ys,a,b,c⟩:=z;exact⟨p,ys,a,b,c⟩),.(by exact qc7 _ (ih (fun y hy=>hn y (qc7 _ hy)) h)),.(by simp only at hc hd hc2 hd2;subst hc hd hc2 hd2),∀(x:V) (xs:?g) (v:Value) (us:?v) (Q:VK),a,∀{l:?fL}{acc:?bS},a,.(by rw[Al (?xU h)];exact e),.(by have hk':k=NameKind.free:=?l7),∀(r:?e1),a,∀(hb:?pB),a,∀(hd:?xM n),a,∀{cells:?bS}{x:Str},a,∀{vl vu:Value}{lo hi:?aD},a,∀{x qual:Str}{st:Stmt}{f:Addr},a,@(go (?a) rfl),@((sc.names.map fun ?bH=>if (k==.free&&qJ.kind==?dY&&?dL n==?a0) then ?k2 else ?bH).lookup p.1=?a),@(∀p,?aZ->Q ?b0 (upd H p ?a)),@(qa7 (m:=Builtin.Tuple.tupleExact _) (ql5 (?a ?b) iC)),@(?x ((e::es).length+([]:?l Keyword).length+(if ([]:?l Keyword).isEmpty then 0 else ?a)<30)),@(Rp ?a g ?b te D Q τ H),@(fun x y H Q=>?a),@(qn6 ?a ?aV ?b k ?cL fin),@(by subst hK;exact ?a ?b),@((items.toList.drop (?a1)).take (?bO-?a)),@(show ?a b=_ from h'),@(X.env.scope.names.lookup ?a),@(PE X (.Call (.Attribute o ?bJ apos) ?dF [] cpos) (tBM ?a T r to t)),@(AL I (A:=A.in1) (by show ?lG;omega) r r' rv HJ (eqDs_ok ?a ds) ?g5),@(?pH p ?a ho hc hd (fun h' c' kp e=>fin its r' hz h' c' kp e) ?e5),@(?e7 (t':=s.toks) (o:=?a ?b) (?gU) ?M ?_),@(?e ⟨?a,Pv ?aI,fun ys' τ' H' p'=>⟨?b-?aI,O9m,rfl,hlt,p'⟩,?pS⟩),@(Dk (hi Ac s σ H _ I ?a) fun v s1 h1=>Dk h1 fun itv s2 h2=>?_),@(?kS (fun x1 x2=>x1++x2) #[] (?V ?a ?y)=(?V ?b its).flatten.toArray),@(?a->?b->Prop),@(AL I (A:=X.A.in1) (by ext eS) r r' rv HJ (eqDs_ok ?a ds) ?g5),@(?a ?dR ?b (FW I (A:=X.A.in1) (by ext eS) hx rx r rv) (fin r rv)),@(Gk ?h6 (fun z=>by simp at z) ?a),@(?a Pv h0 hl (fun i x ys τ H e p=>hs i x ys τ H e p) hd),@(upd H ?a (?h ?b)),@(?p ?H X.A ?a ?cW ?Q s),@(Fh X sc N' ?a s₀ H₀ fp),@(Classical.propDecidable ?a),@(?p (?cK prog w) A ?a Q E s),@((ws.map tI).findIdx? (fun e=>eqD e (tI f))=?a (?b)),@(∀i ys τ H,i<n->?aT->g (?f (lo+i)) τ H ?a),@(fun y H4=>?iK/\?kX/\N ?cR ?a (upd H4 D (?h ?cR))),@((?a (?aP)).take (?eF-?aP)),@(tn i ?a/\(∀b∈fp,H' b=none)/\W i ?b ys τ' H'),@(Q (.bl ?a) H),@(?p _ _ ?a _ _ s),@(?a<=sizeLine),@(Rep K H ?a ?b),@(EP X Ac σ Q ?a ?b),@(?a==NameKind.free),@(?a ?D ?dE (by simpa[e1,e2]using hl) O9m),@(xs.length+?a<=sizeLine),@(fun xs H Q=>?a),@((?a).length<=acc.length+?b),@(∀i x ys τ H,?r1->?aT->g x τ H ?a),@(OpR X ?e9 (?a ?b)),@(?q K H ?a ?b),@(?c (assign (?cE) ?a)),@(RcAt A s ?cD (?i b) (eqD (?a) (?b es))),@(By P w K mg base En ?a f fd ps sp),@(?gX f=?c ⟨oc,od,.func ?a,osl⟩),@(fun x lo hi H Q=>?a),@(SqL K H ?a ?b),@(OpR X (?c7 .NotIn) (ZS ?a n ?aY)),@(?dP ws fam ?a ?b),@(Rp J g tc te D ?a ?h7 (upd ?b D ?bK)),@((∀p H',?a2->Dy K H' p ?a->?dO)->?b),@(∀l,?fX->Q (?g0) (upd H l ?a)),@(Ax ?a fam),@(?jY (fun x=>?x ?a)),@(?c { cls:=?L,data:=?J #[] ?a }),@((c7 cells l acc).lookup ?a=?aE),@(∀ys τ H,Pv ?a ys τ H->Q H),@(by subst hK;exact(?a).imp ?nT),@(show x=?a from hx),@(show ?a=?b from h),@(qo3 ?a (fun r s4 _z=>?_) ?j0),@(qa7 (wpAny_standAt (qa7 ?a))),@(by rw[hk];exact⟨_,I',?a⟩),@(OpR X (?c7 .NotEq) (ZQ ?a n)),@(Ep e ?a (by intro z;cases z)),@(∀d e,?gE->(?wX y e)->?qD->(?wU ?a)->?b),@(?q K (?wK D (ys++[v])) (ys++[v]) ?a),@(E8 X (?F ?a) ?b),@(fun acc C=>?nC ?H X.A ?Q ?a ?b acc C),@(⟨?cF,_,?wB ?a (?cC),rfl,?kG⟩),@(?a K x y H Q),@(∀p ys,?f6->((?lK\/?jF))->?a->?b),@(?t (c7 ?gD ?a ?b))])
theorem FD(i j:Nat):?kR (i:Int) ?kJ 1=j-i:=by
 unfold Builtin.Slice.slicePlaces;have h1:?cS > 0:=O9m
 simp only[h1,if_true,Int.ediv_one];split<;>omega
theorem Wx{v:Value}{o:?aD}{Q:?aD->?g6}(p:?fE v o)(h:Q o s):?wO (Builtin.Slice.slicePartIndex v):=by
 cases p with
 | none=>exact ?p2 h
 | int i t=>exact slicePart_int h
theorem Tk{sl:Addr}[?vU]{n:Nat}{Q:Int × Int × Nat->?g6}[?v5]
 (h:Q (?j7,1,?rC-?nX) s):?wO (Builtin.Slice.sliceApplied ?gS (?t ?dH)):=by
 obtain⟨os,hos,hcs,hds⟩:=id hs;unfold Builtin.Slice.sliceApplied Builtin.Slice.sliceFields;refine qa7 (qa7 (qh0 hos hds (x:=vl) rfl (qa7 (qh0 hos hds (x:=vu) rfl (qa7 (qh0 hos hds (x:=?bR) rfl (qc1 ?_)))))));refine qa7 (?p2 ?_);show ?wV (if (?cS==0)=true then _ else _);rw[?w ?bU];refine qa7 (Wx pl (qa7 (Wx pu (qa7 (qc1 ?_)))));show ?wV (match Builtin.Slice.sliceAdjust lo hi 1 ?dH with | (lo,hi)=>?t (lo,?cS,?kR lo hi 1));rw[gM lo hi n];show ?wV (?t (?j7,?cS,?kR ?j7 ((?rC:Nat):Int) 1));rw[FD];exact qc1 h
theorem MD(xs:?fH)(i k:Nat):((?e0 k).filterMap ?r0).toArray=((xs.toList.drop i).take k).toArray:=by
 have e:(?r0)=?t3:=by
  funext m
  have:?pG=i+m:=O9m
  rw[this]
 rw[e];have:=pick_run xs i k;rw[List.filterMap_map]at this;have e2:((fun x=>xs[x]?) ∘ fun x=>i+x)=?t3:=rfl;rw[e2]at this;rw[this]
theorem getItem_tuple_cut{t sl:Addr}{items:?fH}[?vU]{Q:?j9}(ht:IsTup ?gO t items)[?v5]
 (hw:¬(?a1=0/\?bO=items.size))
 (h:Q ?gQ { s with heap:=?iE { cls:=?cI,data:=?J (?w5 ?a1).toArray } })
 (hsz:?wW items.size):?wO (?gL (?i t) ?gS):=by
 have iC:sizeOk (?J (?w5 ?a1).toArray):=by
  show(?w5 ?a1).toArray.size<=sizeLine;rw[qb8,qc4,qi5,qu9];omega
 have hj:?bO<=items.size:=vB _ _ ?M hi;obtain⟨os,hos,hcs,hds⟩:=id hs;have hTs:?lI ?gS "slice":=⟨os,hos,hcs⟩
 unfold getItem
 try with_reducible refine qq8 ?_
 first | refine qa7 (qc1 ?_) | skip
 refine qa7 (wpAny_sequenceKey ?fB ?bU ?_)
 refine qa7 (wpAny_callSpecial?_slot (name:=Str.ofString ?oK) ?fB qv7
  (qk3 qv7 ?fB entry_tuple_getitem ?_ (args_tuple_getitem _ _)))
 show ?wV (Builtin.Tuple.tupleItemsOf (?i t)>>=_);refine qa7 (tupleItemsOf_ ht ?_);refine qa7 (wpAny_typeOf hTs ?_);rw[?n ?bU];refine qa7 (Tk hs pl pu ?_)
 have hno:¬(?s4):=by
  intro q;rw[qc3,qc3]at q;have q1:?nS=0:=?p6 q.1.1;have q2:?bO-?a1=items.size:=?p6 q.2;exact hw ⟨O9m,O9m⟩
 show ?wV (if ?s4 then _ else _);rw[?w hno,MD]
 first
  | exact ?qE
  | exact ?vZ qa7 (qc1 (qc1 ⟨_,rfl,qc1 h⟩))
  | exact qa7 (?vZ qc1 (qc1 ⟨_,rfl,qc1 h⟩))
  | exact qa7 (?qE)
universe e9
universe HT
namespace L2
open PySem PySem.Spec PyProof.Rows
noncomputable abbrev TO:=St->?wF Hp (?lB)
def PO(X:Cx)(e:?tH)(t:TO):Prop :=
 ∀[?d5] (Q:?lB),?bG->?tS →
   ?p ?H X.A (evalPart e ?m) (fun u s'=>∃o H',?pK/\?fE u o/\Q o H') ?Q s
def PK:TO:=fun _ H Q=>Q ?O H
inductive oM(Q:?lB)(x:V)(H1:Hp):Prop
 | mk:∀i,(x=?cV)->(Q (?c i) H1)->?oT
def zF(t:TE):TO:=fun σ H Q=>t σ H fun x H1=>?oT
section
variable{X:Cx}{e:Expr}{te:TE}{lo hi:?tH}{tl th:TO}{pos p2:Pos}
theorem Gx:PO X ?O PK:=by
 ext eX;rw[evalPart_none];exact qc1 ⟨?O,H,I,?bR,h⟩
theorem Fj(h:?o1):PO X (?c e) (zF te):=by
 intro Ac s σ H Q I hw;rw[evalPart_some];refine Dk (h Ac s σ H _ I hw) fun u s1 _z=>?_;obtain⟨x,H1,I1,r1,q1⟩:=_z;obtain⟨i,rfl,q⟩:=q1;obtain⟨t,rfl⟩:=r1;exact⟨?c i,H1,I1,?f i t,q⟩
def YN(X:Cx)[?vQ]:Prop :=
 ∀[?d5] (x:V) (v vl vu:Value) [?eZ] (sl:Addr) (Q:VK),?bG->?cT->?rD->?o4->?tL->r x lo hi H Q →
   ∃T id,typeLookup (?a3 T) ?oK=?t (?c (?F id))/\?lI v T/\?wL (?gL v ?gS)
def tSl[?vQ](te:TE)(tl th:TO):TE:=fun σ H Q=>te σ H fun x H1=>tl σ H1 fun l H2=>th σ H2 fun u H3=>r x l u H3 Q
theorem Ex{r:?e1}(hr:YN X r)(he:?o1)(hl:PO X lo tl)(hu:PO X hi th):PE X (?rW e (.Slice lo hi ?O p2) pos) (tSl r te tl th):=by
 ext eX;refine ?sR (Dk (he Ac s σ H _ I h) ?p8);obtain⟨x,H1,I1,r1,q1⟩:=_z;refine wpAny_Slice (Dk (hl Ac s1 σ H1 _ I1 q1) fun vl s2 ⟨l,H2,I2,pl,q2⟩=>Dk (hu Ac s2 σ H2 _ I2 q2) fun vu s3 _z=>?_);obtain⟨u,H3,I3,pu,q3⟩:=_z;rw[evalPart_none];refine qc1 ?_;have I4:Bk X Ac σ H3 ?m4:=I3.kept (t':=s3.toks) ?gU;obtain⟨T,id,hT,ht,hg⟩:=hr Ac ?m4 σ H3 x v vl vu l u ?iO Q I4 r1 (Heap.IsSliceOf.new ..) pl pu q3;show ?p ?H X.A (?rK e (.Slice lo hi ?O p2) v (?i ?iO)) ?cW ?Q ?m4;exact tail_any (ops:=[?i ?iO,v]) ht hT hg (by with_unfolding_all rfl)
def Jc(xs:?g)[?eZ]:?g:=?wS xs.drop
theorem Ve(xs:?g)[?eZ]:(?cC).length<=xs.length:=by
 unfold Jc;rw[qc4,qi5];omega
inductive uF[?d][?mE]:Prop
 | mk:∀a xs,?eG->?fK->(¬(?aP=0/\?eF=xs.length))->(?vY (?z (?cC)))->?n7
def Ar9[?d]:?e1:=?xB ?n7
theorem vA:YN X (Ar9 X.K):=by
 ext mB;obtain⟨a,xs,rfl,hx,hw,q⟩:=h;cases rx;obtain⟨its,r,ht,hz⟩:=?a7 hx;have hlen:its.toArray.size=xs.length:=by rw[qb8];exact r.length.symm
 refine⟨?aW,_,qv7.lookup,?fB,?_⟩;refine HT.getItem_tuple_cut ht hs pl pu (by rw[hlen];exact hw) ?_ (by rw[hlen];exact hz);rw[hlen];refine(?xZ ?z);exact⟨?nY,_,?wS r.drop,?l0⟩
inductive oR[?d][?aN]:Prop
 | mk:∀a b xs ys,?eG->(y=?i b)->?fK->(Dy K H b ys)->(xs≠[])->(?x1 ys.length)->((ys=[]->Q ?cD H))->((ys≠[]->?vY (?z (xs++ys))))->?o9
def ZT[?d]:R2:=?w2 ?o9
theorem Vals.nil_iff[?dD][?c0](r:?dU):us=[]↔xs=[]:=by
 cases r with
 | nil=>simp
 | cons _ _=>simp
theorem qK:?x5 ZT X.K:=by
 ext bX;obtain⟨a,b,xs,ys,rfl,rfl,ha,hb,hx,hz,q1,q2⟩:=h;ext uT;refine HT.cat_tup p1 p2 (fun z=>hx (r1.nil_iff.mp z)) (fun z=>⟨?b5,H,I,rfl,q1 (r2.nil_iff.mp z)⟩) (?tK) (by rw[←r1.length,←r2.length];exact hz);refine⟨?cF,_,?wB ?z (xs++ys),rfl,q2 (fun w=>z (r2.nil_iff.mpr w)) _ (?fQ ?M)⟩;exact⟨?oF,_,r1.append r2,?l0⟩
universe e9
def RD(n:Nat)(i:Int):?aX Nat:=if 0<=i then(if i<n then ?c i.toNat else none) else if ?hZ then ?c ?q2 else none
def e9{α:Type}(xs:?eD)(i:Int):?aX α:=(RD ?aK i).bind fun j=>xs[j]?
theorem IA{n:Nat}{i:Int}{j:Nat}(h:RD n i=?Z):?qG i n=?Z/\j<n/\?hZ/\i<n:=by
 unfold RD at h;by_cases h0:0<=i
 . rw[?n h0]at h;by_cases h1:i<n
   . rw[?n h1]at h;have e:?uB:=qd3 h;exact⟨by rw[?jS h0 h1,e],O9m,O9m,h1⟩
   . rw[?w h1]at h;cases h
 . rw[?w h0]at h;by_cases h1:?hZ
   . rw[?n h1]at h;have e:?q2=j:=qd3 h;exact⟨by rw[?lU ?G h1,e],O9m,h1,O9m⟩
   . rw[?w h1]at h;cases h
theorem iO{α:Type}{xs:?eD}{i:Int}{v:α}(h:e9 xs i=?I):∃j,?r3=?Z/\xs[j]?=?I/\?qI/\-?sH<=i/\?tT:=by
 unfold e9 at h;cases e:RD xs.length i with
 | none=>rw[e]at h;cases h
 | some j =>
   rw[e]at h;obtain⟨h1,h2,h3,h4⟩:=IA e;exact⟨j,h1,h,h2,h3,h4⟩
theorem Bl{α:Type}{xs:?eD}{j:Nat}{v:α}(h:xs[j]?=?I):e9 xs ?kJ=?I:=by
 have hj:?qI:=(?cJ h).1
 have e:RD ?aK ?kJ=?Z:=by
  unfold RD;rw[?n ?G,?n ?G];simp
 unfold e9;rw[e];exact h
def SI(b:Expr):Prop:=∀o i,?u7 b ?eK o i=operate [o,i] (?gL o i)
def IxR(X:Cx)(r:R2):Prop :=
 ∀(value slice:Expr) [?d5] (x y:V) (v u:Value) (Q:VK),?bG->?cT->RelV y u->r x y H Q →
   ?u7 slice ?eK v u=operate [v,u] (?gL v u)->?wL (?rK value slice v u)
def MtR(X:Cx)(id:String)[?hM]:Prop :=
 ∀[?d5] [?vM],?bG->?cT->?dU->?r7 →
   ?n5
section
variable{X:Cx}{a b:Expr}{ta tb:TE}{pos:Pos}
theorem Bd{r:R2}(hr:IxR X r)(ha:PE X a ta)(hb:PE X b tb)(hs:SI b):PE X (?rW a b pos) (tOp r ta tb):=by
 ext eX;exact ?sR (XM ha hb I h fun v u s2 x y H2 I2 rx ry q=>hr a b Ac s2 σ H2 x y v u Q I2 rx ry q (hs _ _))
inductive uI[?d][?aN]:Prop
 | mk:∀p xs i v,(x=?bF)->(?g1)->(?tA)->(e9 xs i=?I)->(Q v H)->?nW
def zS[?d]:R2:=?w2 ?nW
inductive UH[?d][?aN]:Prop
 | mk:∀p xs i v,(x=?bF)->(?g1)->(Dy K H p xs)->(e9 xs i=?I)->(Q v H)->?qN
def ZR[?d]:R2:=?w2 ?qN
theorem RC:IxR X (zS X.K):=by
 ext uP;ext T;obtain⟨its,r,pl,hz⟩:=?bQ;ext uK
 by_cases h0:0<=i
 . have hj:?uB:=by
    rw[?jS h0 h5]at h1;exact ?gC
   exact item_listR ?dJ h0 O9m (by rw[hj];simpa using ew) fin hs
 . have hj:(i+?rN).toNat=j:=by
    rw[?lU ?G h4]at h1;ext c2;exact ?gC
   exact ?u6 (x:=w) ?qA ?rI
    (wpAny_getItem_list_neg (Q:=?nQ) ?dJ O9m (by rw[qb8]<;>omega) O9m (by rw[hj];simpa using ew) ?r4) hs
theorem WG:IxR X (ZR X.K):=by
 ext uP;ext T;obtain⟨its,r,pl,hz⟩:=?f5;ext uK
 exact ?u6 (x:=w) pl.typeIs slot_tuple_getitem.lookup
  (getItem_tuple (j:=j) (Q:=?nQ) pl O9m O9m (by ext c2;exact h1) (by simpa using ew) ?r4) hs
theorem fN[?hT](n j:Nat)(u:Value):?h2 (·.setIfInBounds j u) ?f9={ cls:=?L,data:=?J (its.set j u).toArray n }:=by
 simp[Obj.mapSeq]
theorem Bk.lst[?a5]{p:Addr}[?dD][?r](h:?lH) :
 ∃(its:?v) (n:Nat),?tM/\?pT/\?sV:=by
 obtain⟨z,its,n,r,e⟩:=I.hok p _ h;exact⟨its,n,r,e,z⟩
theorem Bk.lstUpd[?a5]{p:Addr}{xs ys:?g}{its its':?v}{n n':Nat}{f:Obj->Obj}[?r](h:?lH)
 (ho:?pT) (hf:f ?f9=?n9) (r:?pY) [?mQ] (t:Nat) :
 Bk X Ac σ (upd H p ?b3) { s with heap:=?gG p f,toks:=t }:=by
 have e:(?gG p f).get? p=?c ?n9:=by
  rw[Heap.get?_update_self f ho (by rw[hf]<;>rfl),hf]
 refine I.write (x:=p) (e:=p) (by rw[h];trivial) ?dM (fun b u hb q=>(?qL _ _ (Ne.symm hb)).trans q) ⟨_,e⟩ ?_;exact⟨hz,its',n',r,e⟩
inductive OP(o:V)(i:V)(v:V)(H:Hp)(Q:(?aM)):Prop
 | mk:∀p xs k j,(o=?bF)->(i=?f k)->(?lH)->(RD ?aK k=?Z)->(Q (?wK p (xs.set j v)))->?n6
def zQ:V->V->V->?wF Hp (?aM):=fun o i v H Q=>?n6
theorem Fe:Ah6 X zQ:=by
 intro Ac s σ H o i v ov iv u Q I ro ri rv h;obtain⟨p,xs,k,j,rfl,rfl,hp,hj,q⟩:=h;cases ro;obtain⟨t,rfl⟩:=ri;obtain⟨its,n,r,ho,hz⟩:=I.lst hp;obtain⟨h1,h2,h3,h4⟩:=IA hj;have hl:=r.length;have hn:=aX
 have I':Bk X Ac σ (?wK p (xs.set j v)) { s with heap:=?gG p (?h2 (·.setIfInBounds j u)) } :=
  I.lstUpd hp ho (fN its n j u) (r.set rv j) (by rw[qi3];exact hz) s.toks
 by_cases h0:0<=k
 . have hk:k.toNat=j:=by
    rw[?jS h0 h4]at h1;exact ?gC
   exact PySem.W.ki_setAt ho h0 O9m (by ext c2;exact h4) (?xS q)
 . have hk:(k+?rN).toNat=j:=by
    rw[?lU ?G h3]at h1;ext c2;exact ?gC
   exact PySem.W.ki_setBack ho O9m (by ext c2;exact h3) O9m (?xS q)
theorem AJ[?eZ](n:Nat):(?kA).1=((?cU n 0 lo:Nat):Int)/\(?kA).2.1=((?cU n n hi:Nat):Int)/\(?kA).2.2=1:=by
 refine⟨?_,?_,rfl⟩
 . cases lo with
   | none=>simp[sliceBounds,HT.sIx]
   | some i =>
     ext uS
     . simp only[h,if_true]<;>omega
     . simp only[h,if_false]<;>omega
 . cases hi with
   | none=>simp[sliceBounds,HT.sIx]
   | some i =>
     ext uS
     . simp only[h,if_true]<;>omega
     . simp only[h,if_false]<;>omega
theorem Zk[?hT][?eZ]:slicePick ?y lo hi ?O=((its.drop (?tI)).take (?cU ?lZ ?lZ hi-?tI)).toArray:=by
 obtain⟨h1,h2,h3⟩:=AJ lo hi ?jB;unfold slicePick;rw[h1,h2,h3];simp only[sliceRange_one,pick_run,qb8]<;>rfl
inductive uG[?d][?mE]:Prop
 | mk:∀a xs,?eG->(?l1)->(?vY (?h (?cC)))->?sE
def ZP[?d]:?e1:=?xB ?sE
theorem pO:YN X (ZP X.K):=by
 ext mB;obtain⟨a,xs,rfl,hx,q⟩:=h;cases rx;obtain⟨its,r,ht,hz⟩:=?a9 hx;have hlen:=r.length;refine⟨?aL,_,?rI,ht.isList.typeIs,?_⟩;refine wpAny_getItem_list_slice ht.isList hs pl pu ?bR ?W ?_ (by rw[qb8]<;>omega);rw[Zk,←hlen];refine(?xZ ?h);exact⟨?nY,_,0,?wS r.drop,?g3⟩
theorem bV:?xX "len" (fun xs H Q=>∃p ys,?e6/\(?lX\/?iA)/\Q (?f ys.length) H):=by
 ext eU;ext v1;have hn:=aX;rcases hq with hq | hq
 . ext m9;exact Calls.call_len_list ?dJ ?e5 ?n4
 . ext mK;have hlen:=r'.length;exact len_tuple pl ?e5 ?n4
theorem BU:E8 X (?L) (fun xs H Q=>∃p ys,?e6/\(?lX\/?iA)/\?pI):=by
 ext eU;ext v1
 have fin:∀[?hT],?qU->?oU->∀(h':Heap) (c':Nat),(∀b o',?cX b=?c o'->h'.get? b=?c o') →
  h'.get? ?R=?c { cls:=?L,dict:=none,data:=?J ?y c',slots:=#[] }->?wY ?gQ ?pC:=fun its r' hz h' c' kp e =>
  ⟨?cF,_,?e7 (t':=s.toks) kp ?M (show ObjOk ?aU X.w _ h' _ ?b3 from⟨hz,its,c',r',e⟩),rfl,?kG⟩
 rcases hq with hq | hq
 . ext m9;obtain⟨o,ho,hc,n,hd⟩:=pl.isList;exact ?wA ?dM
 . ext mK;have hlen:=r'.length;obtain⟨o,ho,hc,n,hd⟩:=pl;exact ?wA (?e rfl)
theorem c8:E8 X (?cI) (fun xs H Q=>∃p ys,?e6/\((?lX/\?rY)\/(?iA/\Q ?b0 H))):=by
 ext eU;obtain⟨p,ys,rfl,h⟩:=h;obtain⟨u,rfl,rx⟩:=P6 r;cases rx;rcases h with⟨hq,q⟩|⟨hq,q⟩
 . ext m9;refine call_tuple_list ?dJ (fun h' kp=>?_) ?e5;have I1:Bk X Ac σ H ?pC:=I.kept (t':=s.toks) kp
   have I2:Bk X Ac σ (upd H ?p4 (?z ys)) { s with heap:=h'.push { cls:=?cI,data:=?J ?y } } :=
    I1.laid (t':=s.toks) (fun b o e=>?f4) ?M (show ObjOk ?aU X.w _ _ _ (?z ys) from⟨hz,its,r',?l0⟩)
   exact⟨?i ?p4,_,I2,rfl,q _ (I1.hok.fresh ?M)⟩
 . ext mK;exact call_tuple_same pl ⟨?bF,H,I,rfl,q⟩
def tyV[?d](T:String)(x:V)(H:Hp):Prop:=match x with
 | ?S _=>T=?eM
 | ?f _=>T=?a4
 | ?bF=>(T=?aL/\∃xs,?tA)\/(T=?aW/\∃o,?gX p=?aC/\o.cls=?cI/\o.dict=none) ∨
    (T=?h5/\((∃kvs,H p=?c (.dK kvs))\/∃kvs,H p=?c (.dT kvs)))\/(T="set"/\∃S n,H p=?c (.set S n))
 | _=>False
theorem uT[?a5]{T:String}{x:V}{v:Value}[?r](r:?cT)(ty:tyV X.K T x H) :
 ?lI v T/\∀a,?fN->∃ob,?cX a=?c ob/\ob.dict=none:=by
 cases x with
 | str z =>
   obtain⟨t,rfl⟩:=r;cases (show T=?eM from ty);exact⟨typeIs_str s z t,?pP⟩
 | int i =>
   obtain⟨t,rfl⟩:=r;cases (show T=?a4 from ty);exact⟨?lP s i t,?pP⟩
 | ref p =>
   cases r;rcases ty with⟨rfl,xs,hq⟩|⟨rfl,o,hk,hc,hd⟩|⟨rfl,hk⟩|⟨rfl,S,n,hk⟩
   . obtain⟨its,_,pl,_⟩:=?bQ;refine⟨?qA,?u0⟩;cases e;obtain⟨o,n,e,c,hd,_⟩:=pl;exact⟨o,e,hd⟩
   . refine⟨⟨o,?aV p o hk,hc⟩,?u0⟩;cases e;exact⟨o,?aV _ o hk,hd⟩
   . have z:∃o,?cX p=?aC/\o.ExactDict:=by
      rcases hk with⟨kvs,hk⟩|⟨kvs,hk⟩
      . ext v0
      . ext v0
     obtain⟨o,e,ex⟩:=z;ext uV
   . obtain⟨o,_,_,_,e,ex,_⟩:=?oR;ext uV
 | _=>exact ?gW ty
structure A71[?d](T:String)[?hM](t:TA)(σ:St)(Q:VK)(x:V)(H1:Hp):Prop where
 mk::(left:tyV K T x H1) (right:t σ H1 fun xs H2=>r x xs H2 Q)
def tBM[?d](T:String)[?hM](to:TE)(t:TA):TE:=fun σ H Q=>to σ H fun x H1=>A71 K T r t σ Q x H1
variable[?uU]
theorem zW[?uM]
 [?v4]
 (hfew:(?qJ
   && ?w0 1)=true:=by rfl)
 [?uN] (hplain:?i0 (·.1)=false:=by rfl) :
 ?w8 X.K:=by
 ext eX;refine wpAny_Call_method_late hbase hfew hline rfl (Dk (ho Ac s σ H _ I h) ?p8);obtain⟨x,H1,I1,r1,ty,q1⟩:=_z;obtain⟨h1,h2⟩:=uT I1 r1 ty;refine⟨T,id,pa,slot,hty,h1,h2,?_⟩;have hA:=ha cpos Ac s1 σ H1 _ I1 q1;rw[hs]at hA ⊢;refine qp4 (by show(false || ?i0 (·.1))=false;rw[hplain]<;>rfl) (qw1 ?_);exact Dk hA fun us s2 ⟨vs,H2,I2,r2,q2⟩=>hm Ac s2 σ H2 x vs v us Q I2 r1 r2 q2
universe e9
def MtM(X:Cx)(id:String)[?hM]:Prop :=
 ∀[?d5] [?vM],?bG->?cT->?dU->?r7 →
   ?n5
theorem Vals.one:∀{x:V}[?c0],?X [x] us->∃u,us=[u]/\RelV x u
 | _,_,?a8 r ?P=>⟨_,rfl,r⟩
theorem Vals.eraseIdx:∀[?dD][?c0] (i:Nat),?dU->?X (?pX i) (us.eraseIdx i)
 | _,_,_,?P=>?P
 | _,_,0,?a8 _ t=>t
 | _,_,i+1,?a8 r t=>?a8 r (Vals.eraseIdx i t)
theorem Vals.rep[?dD][?c0](h:?dU):∀k:Nat,?X (?qR).flatten (?V k us).flatten
 | 0=>?P
 | k+1=>by
   rw[qi7,qi7,qk9,qk9];exact Vals.append h (Vals.rep h k)
theorem n6{α:Type}:∀(l:?eD) (i:Nat),(l.eraseIdx i).length<=l.length
 | [],_=>?c9
 | ?b4,0=>qn0 _
 | _::r,i+1=>qi4 (n6 r i)
theorem y7[?hT]:∀(k:Nat) (acc:?v),
 ?kS (fun x1 x2=>x1++x2) acc.toArray (?V k ?y)=(acc++?pQ).toArray
 | 0,acc=>?K
 | k+1,acc=>by
   have e:acc.toArray++its.toArray=(?lC).toArray:=?K
   have e2:(?lC)++?pQ=acc++(?V (k+1) its).flatten:=by
    rw[qi7,qk9,qw0]
   rw[←e2,←y7 its k (?lC),←e,qi7,List.foldl_cons]
section
variable{X:Cx}[?a5]{l b:Addr}{xs ys zs:?g}
theorem Bk.lset{its its':?v}{n:Nat}{f:?fH->?fH}{t':Nat}[?r](hH:?cG)
 (e:?pA) (hf:f ?y=its'.toArray) (hv:?pY) [?mQ] :
 Bk X Ac σ (upd H l ?b3) { s with heap:=?gG l (?h2 f),toks:=t' }:=by
 have q:=PySem.IsL.update e f;rw[hf]at q;refine I.write (x:=l) (e:=l) (by rw[hH];exact trivial) ?dM (fun b' u hb hu=>(?qL ?gO (?h2 f) (Ne.symm hb)).trans hu) ⟨_,q⟩ ?_;exact⟨hz,its',_,hv,q⟩
theorem Bk.lnew{its:?v}{t':Nat}[?r](hv:?qU)[?mQ] :
 Bk X Ac σ (upd H ?R ?b3) { s with heap:=?iE { cls:=?L,data:=?J ?y },toks:=t' } :=
 ?e7 (fun _ _ q=>qa5 _ q) ?M ⟨hz,its,0,hv,?g3⟩
theorem Bk.fresh[?r]:?pO:=?fQ ?M
theorem Bk.lstM[?r](hH:?cG):?sV/\∃(its:?v) (n:Nat),?tM/\xs.length=its.length/\?pA:=by
 obtain⟨z,its,n,r,e⟩:=I.hok l _ hH;exact⟨z,its,n,r,r.length,e⟩
theorem MN{n:Nat}(h:?nB):?qV n=false:=by
 unfold Builtin.List.listTooLong;exact qi9 O9m
universe e9
section
variable{X:Cx}
inductive EK[?mN]:Prop
 | mk:∀l xs y,?fP->?n0->(?cG)->(xs.length<sizeLine)->(Q ?E (?wK l (xs++[y])))->?o7
def pY:?eL:=fun x vs H Q=>?o7
theorem Ej:MtM X "list.append" pY:=by
 ext mI;obtain⟨l,xs,y,rfl,rfl,hH,hz,q⟩:=h;ext mH;ext mJ;refine ?e3 F.slot_list_append ?eN F.entry_list_append (F.args_list_append_2 _ _) (PySem.list_append l ?y n u (by rw[qb8];omega)) ?iD;refine⟨?E,_,I.lset (its':=its++[u]) hH e ?W (r.append (?a8 ru ?P)) ?_,rfl,q⟩;rw[qc0,qt6];omega
inductive iU[?mN]:Prop
 | mk:∀l xs i k y,?fP->(vs=[?cV])->(?cG)->(-(?dZ)<=i)->(i<?dZ)->(?r3=?c k)->(xs[k]?=?c y)->(Q y (?wK l (?pX k)))->?nN
def VD:?eL:=fun x vs H Q=>?nN
theorem DI:MtM X "list.pop" VD:=by
 ext mI;obtain⟨l,xs,i,k,y,rfl,rfl,hH,h1,h2,hk,hy,q⟩:=h;ext mH;obtain⟨t,rfl⟩:=ru;ext mJ;obtain⟨w,hw,rw'⟩:=?fO hy
 refine ?e3 F.slot_list_pop ?eN F.entry_list_pop (F.args_list_pop_2 _ _)
  (MeetsSeq.list_pop_at l ?y n i t k w (?pR) (by ext c2;exact hk) (by rw[←Array.getElem?_toList];exact hw) (by rw[qb8];omega)) ?iD
 refine⟨y,_,I.lset (its':=its.eraseIdx k) hH e ?_ (r.eraseIdx k) ?_,rw',q⟩
 . show its.toArray.eraseIdxIfInBounds k=(its.eraseIdx k).toArray;rw[List.eraseIdxIfInBounds_toArray]
 . have:=n6 xs k;omega
inductive UG[?aN]:Prop
 | mk:∀l k xs,?fP->(y=?f k)->(?cG)->(-(?dZ)<=k)->(k<?dZ)->(xs.length*k.toNat<=sizeLine)->(?vY (?h (?V ?gN xs).flatten))->?o5
def As0:R2:=?w2 ?o5
theorem qX{α:Type}(xs:?eD)(k:Nat):(?qR).flatten.length=k*xs.length:=by
 induction k with
 | zero=>simp
 | succ k ih=>rw[qi7,qk9,qc0,ih,Nat.succ_mul,qw4]
theorem MJ:OpR X (?tU .Mult) As0:=by
 ext bX;obtain⟨l,k,xs,rfl,rfl,hH,h1,h2,hz,q⟩:=h;cases rx;ext T;ext mJ;have hlen:?wW ?lQ:=by ext c2;exact hz
 have hcap:¬?lQ > ?rR:=by
  have:?oN<=?rR:=?u8
  omega
 have hfit:¬(!Builtin.List.listFitsIndex k)=true:=by
  rw[?pR];exact qd6
 have Ad8:¬?qV (?lQ)=true:=by
  rw[MN hlen];exact qd6
 have hnew:?wE (if its.toArray.isEmpty=true then 0 else k.toNat) ?gN:=by
  have f0:∀m:Nat,?wE m m:=fun m=>by
   have:=y7 its m [];rw[qn8]at this;exact this
  rw[f0];cases its with
  | nil=>simp
  | cons a r'=>rw[?eH]
 refine wpAny_binaryOp_repeat_ref (T:=?aL) (U:=?a4) ?bU ?eN (fun s'=>?lP s' k t) noFill_list_mul F.fills_int_mul ?o8 repeat_list F.slot_int_index.lookup
  (?e3 ?o8 (?lP s k t) F.entry_int_rmul (F.args_int_rmul_2 _ _) (int___rmul___int_list k t l ?y n)
    ⟨e,rfl,?eN,?e3 F.slot_list_mul ?eN F.entry_list_mul (F.args_list_mul_2 _ _) (AutoListH.list___mul___list_int_3 l ?y n k t hfit hcap Ad8) ?iD⟩)
 rw[hnew];exact⟨?i _,_,I.lnew (t':=s.toks) (r.rep ?gN) (by rw[qX,Nat.mul_comm];exact hz),rfl,?s3⟩
universe e9
section
variable[?v7]
universe e9
section
variable{X:Cx}
universe e9
universe L2
namespace Att
open PySem PySem.W PySem.Calls PyProof.Rows
theorem Vv{P:Params}{h:Heap}:∀[?dB] (vs:?v),WellAll P h vs (?dS WData.int)->?fJ:=by
 intro ns
 induction ns with
 | nil =>
   intro vs w;rw[qt5]at w;cases w;exact ?P
 | cons n ns ih =>
   intro vs w;rw[qd5]at w;cases w with
   | cons a b =>
     cases a;exact ?a8 _ _ (ih _ b)
theorem script_of{l:OpenLaw}{n:Nat}(hn:l.most=?c n){P:Params}{h:Heap}{args:?sS}{vals:?v}
 (hpre:l.row.toRowW.claim.pre args=true) (hwl:WellAll P h vals args) :
 ∃a vs ns,vals=[Value.ref a]/\args=[WData.list (?dS WData.int)]/\h.get? a=?c ?h8/\?fJ/\?t9:=by
 have hsh:WShape.hasAll [] args [.list ?f]=true:=(?r5).1;have hc:l.pre.holds [] { args:=args }=true:=(?r5).2;obtain⟨d,r,rfl,h1,h2⟩:=hasAllW_cons hsh;obtain rfl:=hasAllW_nil h2;obtain⟨xs,rfl,h3⟩:=hasW_list h1;obtain⟨ns,rfl⟩:=items_int h3
 have hlen:?t9:=by
  unfold OpenLaw.pre at hc
  have h4:(WTm.not (.lt (.lit (?f ?dH)) (.len (.arg 0)))).holds [] { args:=[.list (?dS ?f)] }=true:=by
   have h4:=(holds_andW hc).1;rw[hn]at h4;exact h4
  have h5:=condW_of h4 (w_not (w_lt w_lit (w_len_list (w_arg rfl))));rw[qa2]at h5;refine qg9 fun q=>?_;have q':?dH<((ns.length:Nat):Int):=O9m
  first
   | (rw[qg3 q']at h5;exact ?C h5 ?bU)
   | (simp at h5;omega)
 cases hwl with
 | cons w1 w2 =>
   cases w2;cases w1 with
   | list ho hall=>exact⟨_,_,ns,rfl,rfl,ho,Vv ns _ hall,hlen⟩
theorem post_true(l:OpenLaw)(args:?sS):l.row.toRowW.claim.post args ?eQ args=true :=
 postW_of (r:=l.row.toRowW) (X:=(true==true))
  (show WShape.has [] ?eQ ?bL=true by first | rfl | decide | simp[WShape.has,WShape.arms,WShape.armsAll])
  (show(WTm.eq .res (.lit ?eQ)).value [] { args:=args,res:=?c ?eQ,after:=args }=?c (?bL (true==true)) from w_eq_bool (w_res rfl) w_lit) rfl
section
variable[?v7]{K:Frag}
universe e9
universe Att
namespace L2
open PySem PySem.Spec PyProof.Rows
theorem g8:∀{vs:?v}[?c1],?fJ->?X ?fV vs
 | _,_,?P=>?P
 | _,_,?a8 n t h=>?a8 ⟨t,rfl⟩ (g8 h)
def xQ(H:Hp):Prop:=∀b,?k9\/∃o xs,H b=?c (.frz o (?h xs))
theorem NB{P:Program}{w:World}[?c4]{mg mb:?h9}{CX:oW}{k:Nat}{fa a:Addr}{fd:FuncData}{x:Str}{sp:Sp}{s₁:Shared}{vs:?v}[?c1]
 (KX:K.In ?gY) (hns:?iT ?t7 mg) (hb:?iT builtinsNs mb) (hbb:∀x:Str,x≠"__name__"->mb x=?Y x) (hlim:s₁.heap.NoLimit) (hg:s₁.gens=#[])
 (ha:?u9 a=?c ?h8) (hi:?fJ) (hl:?wW ns.length) (hr:F6 k ?jH)
 (F:∀base:Heap,K.In base->base.Ns ?t7 mg->By P w K mg base CX k fa fd [x] sp) (hbind:∀(s:Shared) (u:Value),BindsTo s fd ⟨[u],[]⟩ [(x,u)])
 (IC:∀H:Hp,xQ H->?fM->sp [?b5] H (fun v _=>v=.bl ?aY) ?k3)
 (hCX:∀H e s',CX [] H s₁ (?k3) e s'->False) :
 ?nO:=by
 have rv:=g8 hi;have At8:=hi.length
 have core:∀H:Hp,xQ H->?fM->Qk P w H ?gY->(∀b,H b≠none->b=a)->(H a≠none->?gX a=none) →
  ?nO:=by
  intro H hO hS hok hA hK;have iN:∀{b:Addr}{o:Obj},?q5->?k9->(?dI).get? b=?aC:=fun e n=>nJ e n
  have noA:∀{b:Addr}{o:Obj}{es:Array DictEntry}{ep:Nat},?q5->o.data=.dict es ep->?k9:=fun {b o es ep} e d=>by
   cases q:H b with
   | none=>rfl
   | some u =>
     have e':b=a:=?nJ;subst e';rw[ha]at e;cases e;have d':Data.seq ?iG _=Data.dict es ep:=d;cases d'
  have nsK:∀{b:Addr}{m:?h9},?iT b m->(?dI).Ns b m:=fun {b m} ⟨o,es,ep,e,d,r⟩=>⟨o,es,ep,iN e (noA e d),d,r⟩
  have hKb:K.In (?dI):=fun b o e=>iN (KX b o e) (by
   cases q:H b with
   | none=>rfl
   | some u =>
     have e':b=a:=?nJ;subst e';rw[hK (by rw[q];simp)]at e;cases e)
  have hM:Mod K mg (?dI):=⟨hKb,nsK hns,⟨mb,nsK hb,hbb⟩,let ⟨mc,h1,h2⟩:=hlim;⟨mc,nsK h1,h2⟩⟩
  have e0:GQ P w K mg (?dI) ?jH [] s₁ H:=⟨rfl,hM,fun b o e=>qN e,ql0 (kC _ _),trivial,fun b hb=>?C (show b∈([]:?h3) from hb) ?W,hok,.of_eq hg⟩
  refine codeAny_mono ((F _ hKb (nsK hns)).run callerA [] s₁ H ⟨[.ref a],[]⟩ [.ref a] [.ref a] _ _ hr e0 (hbind s₁ (.ref a)) (.cons rfl .nil) (IC H hO hS)) fun r s' h=>?_;cases r with
  | error e=>exact(hCX H e s' h).elim
  | ok fl =>
    cases fl with
    | next=>exact ?gW h
    | brk=>exact ?gW h
    | cont=>exact ?gW h
    | ret u =>
      obtain⟨v,H',os,bare,un,Aw6,r',q⟩:=h;have q':v=.bl true:=q;subst q';obtain rfl:u=Value.bool true:=r';refine⟨rfl,OldK.of_keep fun b o e=>?_,os,bare⟩;cases q:H b with
      | none=>exact un.keep b o e q (by intro z;exact ?C (show b∈([]:?h3) from z) ?W) ?W
      | some u =>
        rcases hO b with z|⟨ob,xs,z⟩
        . rw[q]at z;cases z
        . have z2:=un.frzs b ob _ z;obtain⟨e1,_⟩:=hok b _ z;obtain⟨e2,_⟩:=Aw6 b _ z2;rw[e]at e1;cases e1;exact e2
 cases hk:K.lookup a with
 | some o =>
   have e:=KX a o hk;rw[ha]at e;cases e;refine core (?i3) (fun _=>?e2) (?e ⟨_,?iG,_,hk,rfl,rfl,rfl,by rw[qb8,At8];exact hl,by simpa using rv⟩) (fun b u z=>by have z':(none:?aX HO)=?c u:=z;cases z') (fun b z=>?oY) fun z=>?oY
 | none =>
   refine core (fun b=>if b=a then ?c (.frz ?h8 (?h ?fV)) else none) (fun b=>?_) (?j (?e ⟨?h8,?n rfl⟩)) (fun b u z=>?_) (fun b z=>?_) fun _=>hk
   . by_cases hb:b=a
     . exact ?e ⟨_,_,?n hb⟩
     . exact ?j (?w hb)
   . by_cases hb:b=a
     . have z':=(?n hb).symm.trans z;cases z';subst hb;exact⟨ha,by rw[qa2];exact hl,vs,_,rv,ha⟩
     . have z':=(?w hb).symm.trans z;cases z'
   . by_cases hb:b=a
     . exact hb
     . exact ?C (?w hb) z
def Eb(s:Stmt)(j:Nat):Stmt:=match s with
 | .ClassDef _ _ _ body _ _ _ _ _ _ _=>body.getD j (?q6)
 | _=>?q6
def Ic(s:Stmt):Arguments:=match s with
 | ?kT _ a _ _ _ _ _ _ _ _=>a
 | _=>{ posonlyargs:=[],args:=[],vararg:=none,kwonlyargs:=[],kw_defaults:=[],kwarg:=none,defaults:=[] }
def Ga(s:Stmt):?l Stmt:=match s with
 | ?kT _ _ b _ _ _ _ _ _ _=>b
 | _=>[]
def Au(s:Stmt):Scope:=match s with
 | ?kT _ _ _ _ _ _ sc _ _ _=>sc
 | _=>{ kind:=?dY,names:=[],isGenerator:=false,isCoroutine:=false }
noncomputable abbrev En:oW:=fun _ _ _ _ _ _=>False
noncomputable abbrev E0:XK:=?k3
theorem CV{X:Cx}:Rq En X E0:=fun _ _ _ _ _ _ _ h=>h.elim
structure Ew[?d](x qual:Str)(st:Stmt)(f:Addr)(fd:FuncData):Prop where
 ex:∃(oc:Value) (od:OAddr) (kV doc pm:Value) (an:OAddr) (Ds ct:Value) (osl:Qo),
  fd=?fZ/\?xA fd/\?oX
 kp:?jJ
section
variable{P:Program}{w:World}[?c4]{mg:?h9}{base:Heap}
theorem Ew.ok[?uQ](len:?mV)
 (hbody:∀[?uW],?oM->?jL →
   ?tO):?uA:=by
 ext v8;refine Af4 lk hcd S len fun A outer s H vs Q E hr IC=>?_;obtain⟨t,h,q⟩:=hbody Ds A outer s H vs Q E hr IC;exact⟨t,h.nox,q⟩
theorem Ew.okZ[?uQ]
 (hbody:∀[?uW],?oM->?jL →
   ?tO) (len:?mV:=by intro vs H Q E h;(repeat (cases h;rename_i h));all_goals (subst_vars;rfl)):?uA:=F.ok S len hbody
theorem Ew.binds[?vV]{fd:FuncData}{ps:?bV}(F:?qK)
 (h:∀(kV doc pm:Value) (an:OAddr) (Ds ct:Value) (us:?v),us.length=ps.length->bindArgs (?fZ) ⟨us,[]⟩=?t (ps.zip us)):?sA:=by
 ext v8;exact .all (h kV doc pm an Ds ct)
theorem bH[?vV]{oc:Value}{od an:OAddr}{osl:Qo}{kV doc pm Ds ct:Value}(l:?xA (?fZ))
 (c:?oX) (k:?jJ):Ew K x ?cO st f (?fZ):=⟨⟨oc,od,kV,doc,pm,an,Ds,ct,osl,rfl,l,c⟩,k⟩
universe e9
section
variable{X:Cx}
theorem pv(i:Nat){x:Str}{pos:Pos}(hN:?q9:=by rfl)(hv:?tY:=by first | exact ?uE | exact ?kD (?uE) | exact ?kD (?kD rfl))(hd:?mY:=by decide)
 (hcd:(x==("__classdict__":Str))=false:=by decide):PE X (.Name x pos) (zE i):=vI hN hv hd hcd
universe e9
theorem ite2[?mP](h1:c->A)(h2:¬c->B):?iB:=by
 by_cases h:c
 . rw[?n h];exact h1 h
 . rw[?w h];exact h2 h
def Same(H H':Hp):Prop:=∀b o,?sI
theorem Same.refl(H:Hp):?aG H H:=fun _ _ h=>h
theorem Same.trans{H H1 H2:Hp}(a:?iW)(b:?aG H1 H2):?aG H H2:=fun c o h=>b c o (a c o h)
theorem Same.free{H H':Hp}(e:?a2){l:Addr}(h:H' l=Option.none):H l=Option.none:=by
 cases q:H l with
 | none=>rfl
 | some o =>
   rw[e l o q]at h;cases h
theorem Same.seq[?c4]{H H':Hp}{a:Addr}[?dD](e:?a2)(h:?l1):SqL K H' a xs:=by
 rcases h with(h|⟨o,h⟩) | h
 . exact ?j (?j (e _ _ h))
 . exact ?j (?e ⟨o,e _ _ h⟩)
 . exact ?e h
def c7(cells:?bS):?fL->?bS->?bS
 | [],acc=>acc
 | ?iV,acc=>c7 cells r (if ?j2 then(n,(?gI n).getD 0)::acc else acc)
theorem Ys{sc:Scope}{env:Env}(h:∀n,?iY->?sQ):closureFor sc env=?y2 ?gR []:=by
 have all:∀(l:?fL) (acc:?bS),(∀n,?lJ∈l->?sQ) →
  (forIn l acc fun(x:?nG) (cs:?bS)=>match x with
    | (?bJ,kind)=>if (?wZ kind)=true then(do let c ←cellOf env ?bJ;?t (?gV ((?bJ,c)::cs))) else ?t (?gV cs))=(?y2 l acc:Sem _):=by
  intro l
  induction l with
  | nil=>intro acc _;rfl
  | cons x r ih =>
    intro acc hl;obtain⟨n,k⟩:=x;rw[List.forIn_cons];ext mL
    . ext vP
      subst hk';obtain⟨c,hc⟩:=hl n qe4;have e1:cellOf env n=?t c:=by unfold cellOf;rw[hc]
      simp only[beq_self_eq_true,if_true,e1,pure_bind];rw[?rE];show _=(?y2 r (if (?wZ NameKind.free)=true then ?r9 else acc):Sem _)
      rw[?jV,hc];rfl
    . have hk2:(?m5)=false:=?l7
      simp only[hk2,qq7,if_false,pure_bind];rw[?rE];show _=(?y2 r (if ?j2 then ?r9 else acc):Sem _)
      rw[?iF]
 have:=all ?gR [] h;unfold closureFor;dsimp only;rw[this,pure_bind]
theorem Gk[?vT]{c:Addr}:∀[?vN],(∀n,?lJ∈l->∃c,?gI n=?aE) →
 (acc.lookup x=?aE->?tD)->?xL x->?tD
 | [],_,_,ha,h=>ha h
 | ?iV,acc,hl,ha,h=>by
   refine Gk (l:=r) (?u3) ?_ h;ext mL
   . rw[?n hk];ext vP
     subst hk';obtain⟨d,hd⟩:=hl n qe4;intro e;rw[qp2]at e;cases hx:x==n with
     | true =>
       rw[hx]at e;have hxn:x=n:=?gA
       subst hxn;rw[hd]at e ⊢;exact e
     | false=>rw[hx]at e;exact ha e
   . rw[?iF];exact ha
theorem Yt[?vT]:∀[?vN],(?l9∈l\/∃c,acc.lookup x=?aE)->∃c,?xL x
 | [],_,h=>by
   rcases h with h | h
   . exact ?f3
   . exact h
 | ?iV,acc,h=>by
   refine Yt (l:=r) ?_;ext mL
   . rw[?n hk];by_cases hx:(x==n)=true
     . exact ?e ⟨(?gI n).getD 0,by rw[qp2,hx]⟩
     . have hx2:(x==n)=false:=?gA
       rcases h with h|⟨c,h⟩
       . ext hK
         . have e1:x=n:=?s9 Prod.fst e;exact ?C (by simp[e1]) hx
         . exact ?j e
       . exact ?e ⟨c,by rw[qp2,hx2];exact h⟩
   . rw[?iF];rcases h with h | h
     . ext hK
       . have e2:NameKind.free=k:=?s9 Prod.snd e;exact ?C (by simp[←e2]) hk
       . exact ?j e
     . exact ?e h
def Fh(X:Cx)[?mS](C:Addr)(s₀:Shared)(H₀:Hp)(fp:?h3):Cx where
 prog:=X.prog
 w:=X.w
 K:=X.K
 mg:=X.mg
 base:=X.base
 A:=X.A
 N:=N'
 s₀:=s₀
 H₀:=H₀
 env:=compEnvC sc (?l8) C ?m
 outer:=X.stack
 stack:=X.stack
 ex:=fp
 fn:=fun _=>false
 calm:=X.calm
 pn:=[]
 xe:=?f8
def gI[?hO](σ:St):St:=cap.map ?q0
structure Vl(X:Cx)[?mS][?hO]:Prop where
 kind:?nU
 len:?uD
 nocell:?oJ
 locals:∀x∈sc.names,?o2
 free:∀n,?iY->?fF n=?a0\/?fF n=?bM
 slots:∀(i j:Nat) (x:Str),N'[i]?=?cZ->cap[i]?=?c (?Z)->X.N[j]?=?cZ/\(?qP)/\?tY
section
variable[?mD][?a5]{C:Addr}[?hV]
theorem Vl.cells[?hQ](ok:X.Ok):∀n,?iY->∃c,?k4 n=?aE:=fun n hn=>ok.has n (c.free n hn)
theorem Kn{env:Env}{x:Str}{k:NameKind}(hnc:?oJ)(h:(relabel sc env).names.lookup x=?c k)(hk:k=.cell\/k=.free):?pU:=by
 have all:∀(l:?fL),(∀x∈l,?lO)->(l.map fun ?bH=>if (?m5&&?p3&&?rG) then ?k2 else ?bH).lookup x=?c k->?l9∈l:=by
  intro l
  induction l with
  | nil=>intro _ h;exact ?f3
  | cons p r ih =>
    intro hn h;obtain⟨n,q⟩:=p;rw[qd5,qp2]at h;by_cases hc:(?wZ q&&?p3&&?rG)=true
    . have hq:q=NameKind.free:=by
       have:=hc;simp only[qc3]at this;simpa using this.1.1
      simp only[hc,if_true]at h;cases hx:x==n with
      | true =>
        have e:x=n:=?gA
        rw[e,hq];exact qe4
      | false =>
        rw[hx]at h;ext vK
    . simp only[hc]at h;cases hx:x==n with
      | true =>
        have e:x=n:=?gA
        simp only[qq7,if_false,hx]at h;have e2:q=k:=?tB
        rcases hk with z | z
        . exact ?C (e2.trans z) (hn (n,q) qe4)
        . rw[e,←z,←e2];exact qe4
      | false =>
        simp only[qq7,if_false,hx]at h;ext vK
 exact all ?gR hnc h
theorem rV[?hQ][?r](hC:?lT)[?hN][?vR]:(?oE).Ok where
 mod:=I.ok.mod
 kind:=c.kind
 glob:=I.ok.glob
 blt:=I.ok.blt
 above:=hC
 inj:=fun x y a hx hy=>I.ok.inj x y a (?wI hx) (?wI hy)
 has:=fun x hx=>by
  refine Yt (?j ?_);rcases hx with hx | hx
  . exact Kn ?dQ hx ?dM
  . exact Kn ?dQ hx (?e rfl)
 cab:=fun _ _ h=>?f3
 hd:=I.ok.hd
 frames:=I.ok.frames
 stk:=?e2
 exf:=fun b hb'=>⟨qc5 (qb3 (?n2) hC),fun x a e=>(?fI).2.2.2.2.1 x a (?iL)⟩
 bs:=I.bs
 bsz:=qa6 ?oB I.sz
 noex:=fun b o e hb'=>by
  rcases (?fI).2.2.2.1 with z | z
  . exact I.ok.noex b o e z
  . exact ?C (qb3 (?h1) (qa6 ?oB z)) (qn7 _)
 exfs:=fun b hb' z=>by
  obtain⟨_,f1,f2,_⟩:=?fI;rcases ?cY (I.stkSub b z) with e | e
  . exact f1 e
  . exact f2 e
 funs:=I.stack
 frf:=I.stkFree
theorem OC[?hQ][?r]{D:Addr}{h1:Heap}{t:Nat}(hC:C=?pZ)(hD:D=s.heap.objs.size)[?hN][?vR]
 (hn:h1.Ns C ?i3) (hl:h1.get? D=?xK 0) (k:∀b o,?nD->h1.get? b=?aC) :
 Bk (?oE) [] ?h7 (upd H D ?bK) { s with heap:=h1,toks:=t }:=by
 have hCs:?lT:=?t2
 have hCD:C≠D:=by rw[hC,hD];exact qs5 _
 have ok:=rV (C:=C) (fp:=fp) c I hCs hf hb;have hDn:?lV:=by rw[hD];exact I.fresh
 have ltc:∀x a,(?l8).lookup x=?c a->?k4 x=?c a:=fun x a e=>?iL;have cel:∀a v,s.heap.IsCell a v->h1.IsCell a v:=fun a v ?p7=>⟨o,k a o ho,hd⟩
 have ltD:∀a v,s.heap.IsCell a v->a≠D:=fun a v ?p7=>by rw[hD];exact qc5 (qb2 ho)
 refine⟨ok,rfl,I.bare,Un.laid k (by rw[hD];exact ?c9) hDn,⟨_,hn,fun i x v e1 e2 e3=>?_⟩,?rO,?_,?rO,?u5,?_,?_⟩
 . have e2':cap[i]?.map (?q0)=?oS:=by
    have:=e2;unfold gI at this;rw[qa9]at this;exact this
   cases hc:cap[i]? with
   | none=>rw[hc]at e2';cases e2'
   | some o =>
     rw[hc]at e2';cases o with
     | none=>cases e2'
     | some j =>
       have e4:?nE=?I:=by simpa using e2'
       obtain⟨q1,q2',q3⟩:=c.slots i j x e1 hc;have q2:?pU:=q2'.elim (fun z=>Kn ?dQ z ?dM) fun z=>Kn ?dQ z (?e rfl);obtain⟨m,hm,hl'⟩:=I.loc
       have e5:σ[j]?=?oS:=by
        cases z:σ[j]? with
        | none=>rw[z]at e4;cases e4
        | some y=>rw[z]at e4;cases y with
          | none=>cases e4
          | some y'=>cases e4;rfl
       obtain⟨u,r,l⟩:=hl' j x v q1 e5 q3;refine⟨u,r,?_⟩;obtain⟨a,ha⟩:=Yt (cells:=X.env.cells) (l:=sc.names) (acc:=[]) (x:=x) (?j q2);have kd:?fF x=?a0\/?fF x=?bM:=c.free x q2;rcases l with⟨hk,_⟩|⟨hk,a',ha',hcell⟩
       . rcases kd with z | z<;>rw[z]at hk<;>cases hk
       . have e6:a'=a:=by
          have:=ltc x a ha;rw[ha']at this;exact ?q3
         refine ?e ⟨q2',a,ha,?_⟩;rw[←e6];exact cel _ _ hcell
 . obtain⟨v,z⟩:=?p5;exact⟨v,cel a v z⟩
 . show upd H D ?bK C=none;rw[Al hCD];exact ?fQ hCs
 . show upd H D ?bK a=none;obtain⟨v,z⟩:=?p5;rw[Al (ltD a v z)];exact I.freeC x a (ltc x a e)
 . exact I.hok.laid k (by rw[hD];exact ?c9) ⟨?fS,[],0,?P,hl⟩
 . show(?rQ).length=N'.length;unfold gI;rw[qa2,c.len]
universe e9
def rX(qJ:Scope)(N:?bV)[?mS][?hO]:Bool :=
 ?x (?nU)&&?x (?uD)&&?xJ (?lO)&&?xJ (?o2) &&
 ?xJ (x.2=NameKind.free->(?dL x.1=?a0\/?dL x.1=?bM)) &&
 (?kQ).all (fun p=>match p.2 with
   | none=>true
   | ?Z=>?x (N[j]?=?c p.1)&&?x ((?vX ?a0) ∨
      (?vX ?bM)) &&
     ?x (?kU=?c .local\/?kU=?a0\/?kU=?bM))
theorem IK[?mD](h:?sM):?fA:=by
 unfold rX at h;rw[qc3,qc3,qc3,qc3,qc3,qe9,qe9,qe9,qe9]at h;obtain⟨⟨⟨⟨⟨h1,h2⟩,h3⟩,h4⟩,h5⟩,h6⟩:=h;refine⟨qd2 h1,qd2 h2,fun x hx=>qd2 (h3 x hx),fun x hx=>qd2 (h4 x hx),fun n hn=>qd2 (h5 _ hn) rfl,fun i j x e1 e2=>?_⟩
 have hm:(x,?Z)∈?kQ:=by
  have e:(?kQ)[i]?=?c (x,?Z):=by
   rw[List.getElem?_zip_eq_some];exact⟨e1,e2⟩
  exact qc6 e
 have h7:=h6 _ hm;dsimp only at h7;rw[qc3,qc3]at h7;obtain⟨⟨h8,h9⟩,h10⟩:=h7;exact⟨qd2 h8,qd2 (p:=?qP) h9,qd2 (p:=?w7 x=?c .local\/?w7 x=?a0\/?w7 x=?bM) h10⟩
def yO(X:Cx)(ifs:?e4)(t:TT):Prop :=
 ∀[?d5] (Q:Bool->?aM),?bG->?tS →
   ?p ?H X.A (forIn ifs ?aY fun c r=>if r=true then do let ok ←isTrue c ?m (eval c ?m);?t (?gV ok) else ?t (?gV r)) (TP X Ac σ Q) ?Q s
def jG:TT:=fun _ H Q=>Q ?aY H
theorem Cb{X:Cx}:yO X [] jG:=fun _ _ _ H _ I h=>wpAny_tests_nil ⟨H,I,h⟩
theorem My{X:Cx}{c:Expr}{t:TT}(h:PT X c t):yO X [c] t:=fun Ac s σ H Q I hw=>wpAny_tests_one (h Ac s σ H Q I hw)
def Rp(J:It)(g:TG)(tc:TT)(te:TE)(D:Addr)(Q:?aM)(τ:St)(H:Hp):Prop :=
 ∃W:Nat->?kW,(∃m,W 0 m [] τ H)/\∀i m ys τ H,W i m ys τ H →
   (J.stop i H/\Q H) ∨
   (J.go i H/\∃N:?oO,(∀ys' τ' H',N ys' τ' H'->∃m',m'<m/\W ?aI m' ys' τ' H') ∧
     ∀x H',J.yld i H x H'->g x τ H' fun τ2 H2=>tc τ2 H2 fun b H3=>if b=true then te τ2 H3 (?wR τ2) else N ys τ2 H3)
section
variable[?mD]{tg elt iter:Expr}{ifs:?e4}{pos:Pos}{g:TG}{tc:TT}{te:TE}
theorem KR{Y:Cx}{J:It}[?hV]{it D:Addr}{tn:?oD}{R:?qZ}{Q:?aM}{τ:St}{H:Hp}{s:Shared}
 (hx:Y.xe=?f8) (hc:Y.calm=true) (hg:PG Y tg g) (ht:yO Y ifs tc) (he:PE Y elt te) (T:V2 Y.prog Y.w Y.K tg J fp it tn) (st:?sG) (hf:∀b∈fp,P5 Y [] H b) (I:Bk Y [] τ H s)
 (h:?w1 J tc) (hR:∀τ' H' s',?s1->Q H'->R (.ok .next) s') :
 ?gJ (?cK Y.prog Y.w) Y.A (?tZ ?b1 0 ?gZ ?c8 Y.env) R s:=by
 obtain⟨W,⟨m0,w0⟩,turn⟩:=h;have eU:∀{H':Hp},(∀b∈fp,H' b=none)->∀b∈fp,P5 Y [] H' b:=fun hn b hb=>⟨hn b hb,(?iU).2⟩
 have no:∀{P:Prop}{e:Value}{s':Shared},Y.xe e s'->P:=fun z=>by rw[hx]at z;exact z.elim
 refine codeAny_loop rfl (fun n s'=>∃i ys τ' H',?s1/\?wT ?gF n) ?_ m0 ⟨0,[],τ,H,I,st,fun b hb=>(?iU).1,w0⟩;rintro n s3 ⟨i,ys,τ3,H3,I3,st3,oZ,w3⟩;show ?p _ Y.A ((compTurn ?b1 0 ?gZ ?c8 Y.env).onRaise (fun x=>do noteFrame x Y.env;theTreesLotGoes x)) _ _ s3;refine wpAny_noted ?_;rw[compTurn_list];refine ?xR ?_;rcases turn i n ys τ3 H3 w3 with⟨stop,qn⟩|⟨go,N,hN,step⟩
 . refine ?xQ (T.done Y rfl rfl rfl hc i [] s3 τ3 H3 (?f8) I3 (eU oZ) st3 stop);obtain⟨hr,I4⟩:=_z;subst hr;exact qc1 (hR _ _ _ I4 qn)
 . refine ?xQ (T.item Y rfl rfl rfl hc i [] s3 τ3 H3 (?f8) I3 (eU oZ) st3 go);obtain⟨u,hr,h4⟩:=_z;subst hr;refine qa7 (qo3 h4 (fun _ s5 _z=>?_) ?j0);obtain⟨x,H5,I5,r5,y5,uZ,WY⟩:=_z;have I5':=I5.pinned (eU WY) (T.obj _ _ uZ)
   have again:∀{τ7:St}{H7:Hp}{ys7:?g}{s7:Shared},Bk Y ([]++Xf fp s5.heap) τ7 H7 s7->N ys7 τ7 H7->∃m,m<n/\∃i ys τ' H',Bk Y [] τ' H' s7/\?wT s7.heap m:=fun {τ7 H7 ys7 s7} I7 n7=>by
    obtain⟨m',hm,w7⟩:=hN ys7 τ7 H7 n7;refine⟨m',hm,i+1,ys7,τ7,H7,I7.unpinned,T.keep _ _ _ uZ fun b hb o e=>(?q4).1,fun b hb=>?_,w7⟩;obtain⟨o,e,d⟩:=T.obj _ _ uZ b hb;exact(?q4).2.1
   refine qa7 (qo3 (hg _ s5 τ3 H5 x u _ I5' r5 (step x H5 y5)) (fun _ s6 _z=>?_) fun _ _ z=>no z);obtain⟨τ6,H6,I6,q6⟩:=_z;refine qa7 (qo3 (ht _ s6 τ6 H6 _ I6 q6) (fun ok s7 _z=>?_) fun _ _ z=>no z);obtain⟨H7,I7,q7⟩:=_z;cases ok with
   | false =>
     have q8:N ys τ6 H7:=?qS
     exact qc1 ⟨rfl,again I7 q8⟩
   | true =>
     have q8:te τ6 H7 (?wR τ6):=?qS
     refine qa7 (qa7 (qo3 (he _ s7 τ6 H7 _ I7 q8) (fun y s8 _z=>?_) ?oC));obtain⟨v8,H8,I8,r8,hD,hl,n8⟩:=_z;refine qa7 (qo3 (Ej _ s8 τ6 H8 ?c8 [v8] ?c8 [y] (fun _ H9=>N (ys++[v8]) τ6 H9) I8 rfl (?a8 r8 ?P) ⟨D,ys,v8,rfl,rfl,hD,hl,n8⟩) (fun _ s9 _z=>?_) ?oC);obtain⟨_,H9,I9,_,n9⟩:=_z;exact qc1 (qc1 ⟨rfl,again I9 n9⟩)
theorem Yr[?a5]{J:It}[?hV]{it:Addr}{tn:?oD}{RR:?eE->Addr->?qZ}{Q:Addr->?aM}{E:?j9}
 [?hQ] [?hS] [?uJ]
 [?r] (T:V2 ?aU X.w X.K tg J fp it tn) (st:?sG) [?hN]
 (h:∀D,?lV->?xF (Q D) H)
 (hR:∀D C s' H' m',?lV->?lT->s'.os=s.os->?t4->Un (LI X.stack) fp H H' ?gO ?gF->Qk ?aU X.w H' ?gF->s'.heap.Ns C m'->H' C=none->C ∉ fp->Q D H'->RR ?c8 C (.ok .next) s') :
 ?p ?H X.A (newList []) (fun acc s₃=>?p ?H X.A (newFunctionEnv sc X.env.globals (?l8) [] X.env.qual ?O ?bR (?c ?m)) (fun cenv s₄ =>
  ?gJ ?H X.A (.compStart ?b1 0 ?gZ acc { cenv with scope:=?iN }) (RR acc cenv.locals) s₄) E s₃) E s:=by
 have hb:?pB:=fun b hb=>by
  obtain⟨o,e,_⟩:=T.obj _ _ st b hb;exact ?h1
 refine ql5 (wpAny_newFunctionEnv ?dQ (by intro y hy;simp at hy) (fun h₁ WM RG=>?_) ?iI);dsimp only at WM RG ⊢;generalize YJ:?iE { cls:=?L,dict:=none,data:=?J ([]:?v).toArray }=H2 at WM RG ⊢;have hC:H2.objs.size=?pZ:=by rw[←YJ,qi0]
 have hCl:s.heap.objs.size<=H2.objs.size:=?t2
 have hCn:s.heap.objs.size≠H2.objs.size:=by rw[hC];exact(qs5 _).symm
 have old:∀b o,?nD->?sD b=?aC:=fun b o e=>by
  have l1:=?h1;exact ?tX b o (qc5 (qb3 l1 hCl)) (qa5 _ (YJ▸ ?f4))
 have hl:?sD ?R=?xK 0:=?tX _ _ hCn (qa5 _ (YJ▸ ?g3));have Aw8:h₁.Ns ?lE ?i3:=by simpa using WM
 have I4:Bk (?g2) [] ?h7 (upd H ?R ?bK) ?tC:=OC c I hC rfl hf hb Aw8 hl old;have hfr:?pO:=I.fresh
 have f4:∀b∈fp,P5 (?g2) [] (upd H ?R ?bK) b:=fun b hb'=>by
  obtain⟨f0,f1,f2,f3,f4,f5⟩:=?fI;have lb:=?n2;refine⟨by rw[Al (qc5 lb)];exact f0,(qc5 (qb3 lb hCl):b≠H2.objs.size),?tK,?j hb',fun x a e=>f4 x a (?iL),?u5⟩;rcases ?cY (I.stkSub b z) with e | e
  . exact f1 e
  . exact f2 e
 have st4:tn 0 h₁:=T.keep _ _ _ st fun b _ o e=>old b o e
 have loop:∀s₅:Shared,s₅=?tC →
  ?gJ ?H X.A (?tZ ?b1 0 ?gZ ?gQ (?g2).env) (RR ?gQ ?lE) s₅:=by
  rintro s₅ rfl;refine KR (Y:=?g2) (J:=J) (fp:=fp) (tn:=tn) (Q:=Q ?R) rfl hc (hg _ _ _ _) (ht _ _ _ _) (he _ _ _ _) T st4 f4 I4 (h _ hfr) fun τ' H' s' I' q'=>?_;obtain⟨m',hn',_⟩:=I'.loc;exact hR _ _ s' H' m' hfr hCl I'.os I'.bare I'.base I'.hok hn' I'.free (fun z=>?C (qb3 (hb _ z) hCl) (qn7 _)) q'
 exact codeAny_compStart_list (loop _ rfl) (T.self _ 0 _ _ _ st4 (loop _ rfl))
def sR(wi:TI)[?hO](g:TG)(tc:TT)(te:TE):TE:=fun σ H Q=>wi σ H fun J H1=>∀D,H1 D=none->?xF (fun H'=>?nP) H1
theorem Bk.fpCh{Ac:Bg}{H:Hp}[?hV][?hN]:∀b∈fp,(b∈X.ex\/X.s₀.heap.objs.size<=b)/\b≠X.env.locals/\(∀x c,?k4 x=?aE->c≠b)/\∀p∈X.pn++Ac,p.1≠b :=
 fun b hb=>let ⟨_,f1,_,f3,f4,f5⟩:=?iU;⟨f3,f1,f4,f5⟩
theorem B5{wi:TI}[?uY](hg:?rX)(ht:?s7)
 (he:?nL) [?vA]:PE X ?b1 (sR wi cap g tc te):=by
 ext eX;have c:?fA:=IK hcap;rw[eval_ListComp];refine ?n3 (use:=none) rfl hs ?pM ?iI ?nA (?wD h);ext vB;refine Yr (RR:=?xY ?O ?cW) (Q:=fun D H'=>?nP) c hc hg ht he I2 T st2 f2 hW ?_;intro D C s' H' m' hD hC hos hbare hun hok hn hHC hCf q;refine⟨m',hn,fun h' Nw=>?_⟩;ext uL;have I4:Bk X Ac σ H' { s' with heap:=h' }:=I3.turned (t':=s'.toks) (fun b o hb e=>(Nw.2 b hb).trans e) hHC k1 k3 k4 k5;exact⟨?i D,H',I4,rfl,q⟩
theorem HK{wi:TI}{i:Nat}{x:Str}{px spos:Pos}(hN:X.N.Nodup)(hi':?q9)(hx:XQ ?jC x)[?uY]
 [?uJ]
 (hsw:swapsWith ?b1 (?c (?cE)) spos.line ?m=?t ?aY:=by rfl)
 [?vA] (hf:X.fn x=true\/?w7 x=?c .local:=by ac_rfl) :
 PS X (.Assign [?cE] ?b1 spos) (PL (sR wi cap g tc te) (y6 i)):=by
 intro Ac s σ H D I h;have c:?fA:=IK hcap;rw[exec_Assign_Name_used _ _ _ _ hsw];refine ?xR ?_;show ?p _ X.A (do let _ ←comprehension ?b1 sc ?m _ (newList []) ?eK (eval iter ?m) (?x7 ?m)) _ _ s
 refine qa7 (Dk (?n3 (use:=?x7 ?m) (Q:=?qC) rfl hs ?pM ?iI ?nA
  (?wD h)) fun _ s' hq=>qc1 (qc1 hq))
 ext vB;refine Yr (RR:=?xY (?x7 ?m) (?qC)) (Q:=fun A H'=>y6 i (?i A) σ H' D.nx) c hc hg ht he I2 T st2 f2 hW ?_;intro A C s' H' m' hD hC hos hbare hun hok hn hHC hCf q;ext uL;show ?p _ X.A (assign (?cE) ?m (?i A)) _ _ s';refine wpAny_assign_Name (i5 I3 hN hi' hx (v:=?i A) rfl (fun s'' I'' _z=>?_) hf);obtain⟨a,Nw,ha⟩:=_z
 have hCa:C≠a:=by
  rcases ha with z | z
  . rw[z];exact k1
  . exact fun z'=>k4 x a z z'.symm
 refine⟨m',hn.sameBut Nw hCa,fun h' Av9=>?_⟩;have I4:Bk X Ac (σ.set i (?c (?i A))) H' { s'' with heap:=h' }:=I''.turned (t':=s''.toks) (fun b o hb e=>(Av9.2 b hb).trans e) hHC k1 k3 k4 k5;exact⟨_,H',I4,q⟩
universe e9
section
variable{g:TG}{tc:TT}[?hH]
theorem Pr[?hB][?vE]
 [?uF]
 [?hG]:?w1 ?s5 tc:=by
 ext uG
 . ext uH
 . have e:?mX:=O9m
   ext vC
theorem OB[?hB][?vG]
 [?uF]
 [?hG]:?w1 ?nZ tc:=by
 ext uG
 . ext uH
 . have e:?mX:=O9m
   ext vC
theorem Yp[?vD]
 (hs:?wQ ?qT)
 [?vS]:?w1 ?s0 tc:=by
 refine⟨fun i m ys τ H=>m=n-i/\i<=n/\?aT,⟨n,?K,?fS,h0⟩,?_⟩;rintro i m ys τ H ⟨rfl,hi,p⟩;by_cases hlt:i<n
 . refine ?wC hlt n;obtain⟨e,y⟩:=y;subst e y;exact hs i ys τ _ hlt p
 . have e:i=n:=O9m
   subst e;exact ?j ⟨?c9,?rV⟩
universe e9
universe L2
namespace L2
open PySem PySem.Spec PyProof.Rows PySem.SeqAt
inductive D where
 | non | bl (b:Bool) | int (i:Int) | str (x:Str) | tup [?f0] | lst [?f0]
mutual
def Rep[?d](H:Hp):?wF V D
 | v,?E=>v=?E
 | v,?b6=>v=?b6
 | v,?cV=>v=?cV
 | v,?S x=>v=?S x
 | v,?eO=>∃a vs,?fN/\Dy K H a vs/\?aR
 | v,?dV=>∃a vs,?fN/\?xC a vs/\?aR
 def Reps[?d](H:Hp):?wF ?g ?A
 | vs,[]=>vs=[]
 | vs,?cA=>∃v r,vs=v::r/\?b2/\?x6 r ds
end
mutual
def WI:?jI
 | ?h _=>false
 | ?eO=>?i4
 | _=>true
def imms:?oV
 | []=>true
 | ?cA=>WI d&&?i4
 end
mutual
def dep:D->Nat
 | ?dV=>?aB+1
 | ?eO=>?aB+1
 | _=>0
def deps:?A->Nat
 | []=>0
 | ?cA=>max (?fR) (?aB)
end
mutual
def eqD:D->?jI
 | ?E,?E=>true
 | .bl a,?b6=>a==b
 | .bl a,?h0=>(if a then 1 else 0)==b
 | ?f a,?b6=>a==(if b then 1 else 0)
 | ?f a,?h0=>a==b
 | ?S a,?S b=>a==b
 | ?z a,?z b=>?dK
 | ?h a,?h b=>?dK
 | _,_=>false
def eqDs:?A->?oV
 | [],[]=>true
 | a::r,b::q=>eqD a b&&eqDs r q
 | _,_=>false
end
mutual
theorem Sw(d:D):eqD d d=true:=by
 cases d with
 | non=>rfl
 | bl b=>simp[eqD]
 | int b=>simp[eqD]
 | str b=>simp[eqD]
 | tup ds=>ext dA;exact ?k6 ds
 | lst ds=>ext dA;exact ?k6 ds
theorem eqDs_refl[?f0]:eqDs ds ds=true:=by
 cases ds with
 | nil=>rfl
 | cons d r=>simp only[eqDs,qc3];exact⟨Sw d,?k6 r⟩
end
theorem eqDs_len:∀{a b:?A},?dK=true->?gH
 | [],[],_=>rfl
 | [],?b4,h=>?nV
 | ?b4,[],h=>?nV
 | x::a,y::b,h=>by
   simp only[eqDs,qc3]at h;rw[qc8,qc8,?qO h.2]
theorem O6:∀(a b:?A),?gH->?dK=(?e0 a.length).all fun j=>match a[j]?,b[j]? with | ?cZ,?c y=>eqD x y | _,_=>true
 | [],[],_=>by simp[eqDs]
 | [],?b4,h=>?jW
 | ?b4,[],h=>?jW
 | x::a,y::b,h=>by
   have h':?gH:=?tB
   rw[qc8,List.range_succ_eq_map,List.all_cons,List.all_map];simp only[eqDs,O6 a b h']
   congr 1
structure Tc(H H':Hp):Prop where
 tup:∀b xs,H b=?c (?z xs)->H' b=?c (?z xs)
 frz:∀b o u,H b=?c (.frz o u)->H' b=?c (.frz o u)
section
variable[?c4]{H H' H1 H2:Hp}{a l p:Addr}[?dD]{o:HO}
theorem Same.t[?hX]:?eJ:=⟨fun b xs h=>x b _ h,fun b o u h=>x b _ h⟩
theorem Tc.lst(h:?cG):Tc H (upd H l o):=⟨fun b ys e=>?sX,fun b ob u e=>?sX⟩
theorem Same.new(h:?fX):?aG H (upd H l o):=fun b u e=>by rw[Al (Ap e h)];exact e
theorem Same.turn(x:?iW)(h:?fX):?aG H (upd H1 l o):=fun b u e=>by rw[Al (Ap e h)];exact x b u e
theorem Dy.t(x:?eJ)(h:?h4):?sC:=by
 rcases h with(h|⟨o,h⟩) | h
 . exact ?j (?j (x.tup _ _ h))
 . exact ?j (?e ⟨o,x.frz _ _ _ h⟩)
 . exact ?e h
theorem Same.seqT[?hX](h:?h4):?sC:=h.t x.t
mutual
theorem Rep.t(x:?eJ){v:V}{d:D}(hi:WI d=true)(h:?b2):?q1:=by
 cases d with
 | non=>exact h
 | bl b=>exact h
 | int i=>exact h
 | str x=>exact h
 | tup ds =>
   ext hL;exact⟨a,vs,e,q.t x,Reps.t x (by simpa[WI]using hi) r⟩
 | lst ds=>simp[WI]at hi
theorem Reps.t(x:?eJ)[?bY](hi:?i4=true)[?mT]:?rA:=by
 cases ds with
 | nil=>exact h
 | cons d r =>
   obtain⟨v,q,e,h1,h2⟩:=h;simp only[imms,qc3]at hi;exact⟨v,q,e,Rep.t x hi.1 h1,Reps.t x hi.2 h2⟩
end
mutual
theorem Rep.same[?hX]{v:V}{d:D}(h:?b2):?q1:=by
 cases d with
 | non=>exact h
 | bl b=>exact h
 | int i=>exact h
 | str x=>exact h
 | tup ds =>
   ext hL;exact⟨a,vs,e,x.seqT q,?lY x r⟩
 | lst ds =>
   ext hL;exact⟨a,vs,e,x.seq q,?lY x r⟩
theorem Reps.same[?hX][?bY][?mT]:?rA:=by
 cases ds with
 | nil=>exact h
 | cons d r =>
   obtain⟨v,q,e,h1,h2⟩:=h;exact⟨v,q,e,?tQ x h1,?lY x h2⟩
end
theorem Reps.length:∀[?bY],?aR->vs.length=ds.length
 | vs,[],h=>by ext mO;rfl
 | vs,?cA,h=>by
   obtain⟨v,r,rfl,_,h2⟩:=h;rw[qc8,qc8,Reps.length h2]
theorem Reps.get:∀[?bY]{i:Nat}{d:D},?aR->?kE->∃v,vs[i]?=?I/\?b2
 | vs,[],i,d,h,e=>by simp at e
 | vs,?i5,0,d,h,e=>by
   obtain⟨v,r,rfl,h1,_⟩:=h;simp only[qs2,Option.some.injEq]at e;subst e;exact⟨v,?K,h1⟩
 | vs,?i5,i+1,d,h,e=>by
   obtain⟨v,r,rfl,_,h2⟩:=h;obtain⟨u,e1,e2⟩:=Reps.get (i:=i) h2 (?rZ);exact⟨u,by simpa using e1,e2⟩
theorem Reps.getV:∀[?bY]{i:Nat}{v:V},?aR->vs[i]?=?I->∃d,?kE/\?b2:=fun {vs ds i v} h e=>by
 have hl:=h.length;have hi:i<vs.length:=(?cJ e).1;obtain⟨d,hd⟩:∃d,?kE:=⟨ds[i]' ?cN,?aA⟩
 obtain⟨u,e1,e2⟩:=h.get hd;rw[e]at e1;cases e1;exact⟨d,hd,e2⟩
theorem Reps.append:∀{vs ws:?g}{ds es:?A},?aR->?x6 ws es->?x6 (vs++ws) (ds++es)
 | vs,ws,[],es,h,h'=>by ext mO;exact h'
 | vs,ws,?cA,es,h,h'=>by
   obtain⟨v,r,rfl,h1,h2⟩:=h;exact⟨v,r++ws,rfl,h1,Reps.append h2 h'⟩
theorem Reps.one{v:V}{d:D}(h:?b2):?x6 [v] [d]:=⟨v,[],rfl,h,rfl⟩
theorem Reps.snoc[?bY]{v:V}{d:D}[?mT](h':?b2):?x6 (vs++[v]) (ds++[d]):=h.append (.one h')
theorem Reps.take:∀[?bY] (n:Nat),?aR->?x6 (vs.take n) (ds.take n)
 | vs,ds,0,h=>by simp[Reps]
 | vs,[],n+1,h=>by ext mO;simp[Reps]
 | vs,?cA,n+1,h=>by
   obtain⟨v,r,rfl,h1,h2⟩:=h;exact⟨v,r.take n,rfl,h1,Reps.take n h2⟩
def Fg[?dB]:?A:=?dS D.int
noncomputable abbrev tI[?dB]:D:=?z ?cQ
theorem v9:∀ns:?k,imms ?cQ=true
 | []=>rfl
 | n::ns=>by show(WI (?gT)&&imms ?cQ)=true;rw[v9 ns];rfl
theorem NG[?dB]:WI (tI ns)=true:=v9 ns
theorem X4:∀xs:Ar,imms ?bN=true
 | []=>rfl
 | x::xs=>by show(WI (tI x)&&imms ?bN)=true;rw[X4 xs,NG];rfl
theorem z6:∀a b:?k,?tW=?nH
 | [],[]=>?lR
 | [],?b4=>?lR
 | ?b4,[]=>?lR
 | x::a,y::b=>by
   show(eqD (?f x) (?f y)&&?tW)=_;rw[z6 a b];ext dA;by_cases e:x=y
   . subst e;by_cases e2:a=b<;>simp[e2]
   . simp[e]
theorem fX(a b:?k):eqD (tI a) (tI b)=?nH:=by ext dA;exact z6 a b
theorem Gi:∀[?f2][?c1],?x6 vs ?cQ↔vs=?i7
 | vs,[]=>Iff.rfl
 | vs,n::ns=>by
   constructor
   . rintro ⟨v,r,rfl,h1,h2⟩;have eN:v=?gT:=h1;rw[eN,Gi.mp h2];rfl
   . rintro rfl;exact⟨?gT,?i7,rfl,rfl,?sO⟩
universe e9
section
variable{X:Cx}[?a5]
theorem HU[?r]{a:Addr}{xs ys:?g}(h:Dy X.K H a xs)(h':SqL X.K H a ys):False:=by
 obtain⟨its,r,⟨o,e,c,n,d⟩,_⟩:=?a7 h;obtain⟨its',r',⟨o',n',e',c',_,d'⟩,_⟩:=?a9 h';rw[e]at e';cases e';rw[c]at c';have z:(?aW:String)=?aL:=by injection c'
 exact ?C z ?bU
mutual
theorem Rep.inj[?r]{v:V}{d e:D}(h:Rep X.K H v d)(h':?iJ):d=e:=by
 cases d with
 | non=>cases (?xP v ?E);cases e<;>first | rfl | (exfalso;first | (cases (show V.non=_ from h')) | ext hI)
 | bl b=>cases (?xP v ?b6);cases e<;>first | (cases (?w6 V.bl);rfl) | (exfalso;first | (cases (?w6 V.bl)) | ext hI)
 | int b=>cases (?xP v ?h0);cases e<;>first | (cases (?w6 V.int);rfl) | (exfalso;first | (cases (?w6 V.int)) | ext hI)
 | str b=>cases (show v=?S b from h);cases e<;>first | (cases (?w6 V.str);rfl) | (exfalso;first | (cases (?w6 V.str)) | ext hI)
 | tup ds =>
   obtain⟨a,vs,rfl,q,r⟩:=h;cases e with
   | tup es =>
     ext hF;have e1:=I.tuple_inj q q';subst e1;rw[?sJ]
   | lst es =>
     ext hF;exact(HU I q q').elim
   | non=>ext bA
   | bl _=>ext bA
   | int _=>ext bA
   | str _=>ext bA
 | lst ds =>
   obtain⟨a,vs,rfl,q,r⟩:=h;cases e with
   | lst es =>
     ext hF;have e1:=I.list_inj q q';subst e1;rw[?sJ]
   | tup es =>
     ext hF;exact(HU I q' q).elim
   | non=>ext bA
   | bl _=>ext bA
   | int _=>ext bA
   | str _=>ext bA
 theorem Reps.inj[?r][?f2]{ds es:?A}(h:?eI)(h':?q X.K H vs es):ds=es:=by
 cases ds with
 | nil =>
   cases (show vs=[] from h);cases es with
   | nil=>rfl
   | cons e es=>ext eT
 | cons d ds =>
   obtain⟨v,r,rfl,h1,h2⟩:=h;cases es with
   | nil=>cases (show v::r=[] from h')
   | cons e es =>
     obtain⟨v',r',z,eN,h2'⟩:=h';cases z;rw[?lD I h1 eN,?u4 I h2 h2']
end
def EqD(X:Cx)(H:Hp)(s:Shared)(d:D):Prop:=∀(A:Around) (x y:V) (u v:Value) (e:D),A.units+?fR<cLine->?iH->Rep X.K H y e->RelV x u->RelV y v->RcAt A s u v (eqD d e)/\EqAt A s u v (eqD d e)
theorem AL[?r]{ds es:?A}{vs ws:?g}{us us':?v}{A:Around}(hu:?sN)(r:?eI)(r':?q X.K H ws es)(rv:?gK)(HJ:?X ws us')
 (ih:?u1) (hdm:∀d∈ds,?rJ):∀j (h1:j<us.toArray.size) (h2:j<us'.toArray.size),EqAt A s ?o3 ?pE (match ds[j]?,es[j]? with | ?cZ,?c y=>eqD x y | _,_=>true):=by
 intro j h1 h2;have l1:=r.length;have l2:=r'.length;have l3:=rv.length;have l4:=HJ.length;have eN:j<us.length:=by simpa using h1
 have h2':j<us'.length:=by simpa using h2
 have e1:ds[j]?=?c (?nR):=?aA
 have e2:es[j]?=?c (es[j]' ?cN):=?aA
 obtain⟨v,ev,rd⟩:=?fO e1;obtain⟨w,ew,re⟩:=r'.get e2;obtain⟨u,eu,ru⟩:=?jO ev;obtain⟨u',eu',ru'⟩:=HJ.get ew
 have f1:?o3=u:=by
  have:us[j]?=?c us[j]:=?K
  rw[eu]at this;ext mG
 have f2:?pE=u':=by
  have:us'[j]?=?c us'[j]:=?K
  rw[eu']at this;ext mG
 rw[f1,f2,e1,e2];have hm:?nR∈ds:=qe8 _;exact(ih _ hm A v w u u' _ (by have:=hdm _ hm;omega) rd re ru ru').2
theorem Pq:∀{ds:?A}{d:D},d∈ds->?rJ
 | ?i5,d,h=>by
   simp only[deps];rcases ?cY h with rfl | h
   . omega
   . have:=Pq h;omega
theorem Ph{a b:?A}(h:¬?gH):?dK=false:=by
 cases q:eqDs a b with
 | false=>rfl
 | true=>exact ?C (?qO q) h
mutual
theorem fY[?r](d:D):?t5:=by
 intro A x y u v e hu hx hy rx ry;cases d with
 | non =>
   cases (show x=.non from hx);cases (show u=Value.none from rx);cases e with
   | non=>ext d3;exact⟨?rP,?lM⟩
   | bl b=>ext d1;exact⟨.none_bool b,.none_bool b⟩
   | int i=>ext d7;ext T;exact⟨?kP,?kP⟩
   | str z=>ext d9;ext T;exact⟨?iP,?iP⟩
   | tup es=>ext bC;ext b8;exact⟨?j3,?j3⟩
   | lst es=>ext bC;ext b9;exact⟨?jU,?jU⟩
 | bl c =>
   cases (show x=.bl c from hx);cases (show u=Value.bool c from rx);cases e with
   | non=>ext d3;exact⟨.bool_none c,.bool_none c⟩
   | bl b=>ext d1;exact⟨?lL,?lL⟩
   | int i=>ext d7;ext T;exact⟨?iQ,?iQ⟩
   | str z=>ext d9;ext T;exact⟨?k1,?k1⟩
   | tup es=>ext bC;ext b8;exact⟨?i9,?i9⟩
   | lst es=>ext bC;ext b9;exact⟨?l5,?l5⟩
 | int c =>
   cases (show x=.int c from hx);obtain⟨t,rfl⟩:=rx;cases e with
   | non=>ext d3;exact⟨?kC,?kC⟩
   | bl b=>ext d1;exact⟨?kV,?kV⟩
   | int i=>ext d7;ext B;exact⟨?iZ,?iZ⟩
   | str z=>ext d9;ext B;exact⟨?kF,?kF⟩
   | tup es=>ext bC;ext b8;exact⟨?k8,?k8⟩
   | lst es=>ext bC;ext b9;exact⟨?iS,?iS⟩
 | str c =>
   cases (show x=.str c from hx);obtain⟨t,rfl⟩:=rx;cases e with
   | non=>ext d3;exact⟨?kZ,?kZ⟩
   | bl b=>ext d1;exact⟨?k5,?k5⟩
   | int i=>ext d7;ext B;exact⟨?jE,?jE⟩
   | str z=>ext d9;ext B;exact⟨?iR,?iR⟩
   | tup es=>ext bC;ext b8;exact⟨?j5,?j5⟩
   | lst es=>ext bC;ext b9;exact⟨?jM,?jM⟩
 | tup ds =>
   ext vF;obtain⟨its,rv,p,_⟩:=?a7 q;ext v3
   cases e with
   | non=>ext d3;exact⟨?iX,?iX⟩
   | bl b=>ext d1;exact⟨?jG,?jG⟩
   | int i=>ext d7;ext B;exact⟨?j8,?j8⟩
   | str z=>ext d9;ext B;exact⟨?i8,?i8⟩
   | lst es=>ext hE;obtain⟨its',_,p',_⟩:=?fD;exact⟨?lW,?lW⟩
   | tup es =>
     have hy':=hy;ext hE;obtain⟨its',HJ,p',_⟩:=?g8
     have main:?x8 ?eO ?z:=by
      have:=RcAt.tuples (A:=A) p p' O9m (?w9 I);ext hA
      ext hC
      rw[e1,e2]at this;ext mC
      . rw[?g7];rw[←hl,qt3]at this;simpa using this
      . ext v2
        rw[z,Bool.and_false]at this;exact this
     refine ?mZ;by_cases hab:a=b
     . subst hab;have e3:D.tup ds=D.tup es:=?rS;rw[e3,Sw];exact ?lM
     . exact ?tE
 | lst ds =>
   ext vF;obtain⟨its,rv,p,_⟩:=?a9 q;ext v3
   cases e with
   | non=>ext d3;exact⟨?kH,?kH⟩
   | bl b=>ext d1;exact⟨?l6,?l6⟩
   | int i=>ext d7;ext B;exact⟨?jR,?jR⟩
   | str z=>ext d9;ext B;exact⟨?lF,?lF⟩
   | tup es=>ext hE;obtain⟨its',_,p',_⟩:=?g8;exact⟨?m0,?m0⟩
   | lst es =>
     have hy':=hy;ext hE;obtain⟨its',HJ,p',_⟩:=?fD
     have main:?x8 ?dV ?h:=by
      ext hA
      ext hC
      ext mC
      . have:=RcAt.lists (A:=A) ?D ?dE O9m O9m (?w9 I);rw[e1]at this;rw[?g7];exact this
      . rw[Ph hl];exact ?x0 RcAt.lists_lengths
     refine ?mZ;by_cases hab:a=b
     . subst hab;have e3:D.lst ds=D.lst es:=?rS;rw[e3,Sw];exact ?lM
     . exact ?tE
 theorem eqDs_ok[?r][?f0]:?u1:=by
 cases ds with
 | nil=>exact fun _ h=>?f3
 | cons d0 r =>
   intro d h;rcases ?cY h with e | h
   . exact e▸fY I d0
   . exact eqDs_ok I r d h
end
inductive IrEqD[?d](n:Nat)[?aN]:Prop
 | mk:?xV (eqD d e) ?r8
def zT[?d](n:Nat):R2:=?w2 ?r8
theorem VL{n:Nat}[?bD]:OpR X ?n8 (zT X.K n):=by
 ext bX;obtain⟨d,e,hd,he,hn,q⟩:=h;exact(fY I d X.A x y v u e O9m hd he rx ry).1 ?aU X.w ?Q _ ⟨.bl (eqD d e),H,I,rfl,q⟩
universe e9
universe L2
namespace L2
open PySem PySem.Spec PyProof.Rows PySem.SeqAt
section
variable{X:Cx}
def tZ(X:Cx)(H:Hp)(d:D)(u:Value):Bool:=@decide (∃v e,RelV v u/\?iJ/\?k7=true) (?wN _)
theorem fW[?a5][?r]{d e:D}{v:V}{u:Value}(r:RelV v u)(h:?iJ):tZ X H d u=?k7:=by
 cases q:eqD e d with
 | true=>exact @qg3 _ (?wN _) ⟨v,e,r,h,q⟩
 | false =>
   refine @qi9 _ (?wN _) ?_;rintro ⟨v',e',r',h',q'⟩;have:=r.inj r';subst this;rw[?lD I h h']at q;rw[q]at q';cases q'
theorem FW[?a5][?r]{A:Around}{x:V}{v:Value}{d:D}[?f2][?c0]{ds:?A}(hu:?sN)(hx:?iH)(rx:?cT)
 (r:?eI) (rv:?gK):∀y,y∈us.toArray->EqAt A s y v (tZ X H d y):=by
 intro y hy;have hy':y∈us:=by simpa using hy
 obtain⟨i,hi⟩:=qh8 hy';have hlt:i<us.length:=?fW;have l1:=rv.length;obtain⟨w,hw⟩:∃w,vs[i]?=?dX:=⟨vs[i]' ?cN,?aA⟩
 obtain⟨u,wL,ru⟩:=?jO hw;rw[hi]at wL;cases wL;obtain⟨e,he,re⟩:=r.getV hw;rw[fW I ru re];have hm:e∈ds:=qc6 he;exact(fY I e A w x y v d (by have:=Pq hm;omega) re hx ru rx).2
theorem iP[?a5][?r]{d:D}:∀[?f2][?c0]{ds:?A},?eI->?gK->us.any ?dR=?fT
 | vs,us,[],r,rv=>by
   cases (show vs=[] from r);cases rv;rfl
 | vs,us,e::ds,r,rv=>by
   obtain⟨v,q,rfl,h1,h2⟩:=r;cases rv with
   | cons r1 r2=>rw[qm2,qm2,fW I r1 h1,iP I h2 r2]
def Ah4[?d](H:Hp)(y:V)[?f0]:Prop:=?wX y (?dV)\/?wX y (?eO)
inductive UI[?d](n:Nat)(neg:Bool)[?aN]:Prop
 | mk:∀d ds,?gE->(Ah4 K H y ds)->(?aB+1<=n)->(?wU (if neg then !(?fT) else ?fT))->?o0
def ZS[?d](n:Nat)(neg:Bool):R2:=?w2 ?o0
theorem JM{n:Nat}[?bD]:?xD X.K:=by
 ext bX;obtain⟨d,ds,hx,hs,hn,q⟩:=h
 have fin:∀[?c0][?f2],?eI->?gK->?wY (?bL (!us.toArray.any ?dR)) s:=fun r rv =>
  ⟨.bl (!(?fT)),H,I,by show ?e8 _=?e8 _;rw[List.any_toArray,iP I r rv],q⟩
 rcases hs with⟨a,vs,rfl,hq,r⟩|⟨a,vs,rfl,hq,r⟩
 . cases ry;obtain⟨its,rv,p,_⟩:=?bQ;exact ?wH notIn_listAt ?D
 . cases ry;obtain⟨its,rv,p,_⟩:=?f5;exact ?wH notIn_tupleAt p
inductive IU[?d](n:Nat)[?mN]:Prop
 | mk:∀ds y d j,?n0->(?wX x (?dV))->(?wX y d)->(?aB+1<=n)->(ds.findIdx? (?tN)=?Z)->(Q (?qF) H)->?sF
def LY[?d](n:Nat):?eL:=fun x vs H Q=>?sF
theorem mT{n:Nat}[?bD]:MtR X ?t6 (LY X.K n):=by
 ext mI;obtain⟨ds,y,d,j,rfl,⟨a,ws,rfl,hq,r⟩,hy,hn,hj,q⟩:=h;ext mH;obtain⟨its,rw',p,hz⟩:=?bQ;have l1:=r.length;have l2:=rw'.length;obtain⟨hlt,hit,hno⟩:=List.findIdx?_eq_some_iff_getElem.mp hj
 have at':∀m (hm:m<its.toArray.size) (hm':m<ds.length),tZ X H d ?p9=eqD ds[m] d:=fun m hm hm'=>by
  obtain⟨w,hw,re⟩:=?fO (i:=m) (d:=ds[m]) ?W;obtain⟨u',hu',ru'⟩:=rw'.get hw
  have e1:?p9=u':=by
   have hm2:m<its.length:=by simpa using hm
   have:its[m]?=?c its[m]:=?K
   rw[hu']at this;ext mG
  rw[e1];exact fW I ru' re
 obtain⟨o,k,ho,hc,hdn,hd⟩:=id p;obtain⟨cls,dd,data,sl⟩:=o;simp only at hc hdn hd;subst hc hdn hd;have hsz:?wW ds.length:=O9m
 have big:?oN<2 ^ 62:=by rw[sizeLine_eq];decide
 refine ?e3 PySem.F.slot_list_index ?kO PySem.F.entry_list_index (PySem.F.args_list_index_2 _ _)
  (list_indexAt a ?y k ?O sl u ?dR j (?aA) O9m ?_ ?_) ⟨ho,FW I (A:=X.A.in1) (by ext eS) hy ru r rw',?_⟩
 . rw[at' j (?aA) hlt];exact hit
 . intro m hm hmj;rw[at' m hm ?G];have:=hno m hmj;simpa using this
 . exact⟨?qF,H,I.tok _,⟨_,rfl⟩,q⟩
inductive uH[?d](n:Nat)[?aN]:Prop
 | mk:?xV ?g9 ?pV
def ZQ[?d](n:Nat):R2:=?w2 ?pV
theorem vK{n:Nat}[?bD]:?xT X.K:=by
 ext bX;obtain⟨d,e,hd,he,hn,q⟩:=h;have fin:?wY (?bL ?g9) s:=⟨.bl ?g9,H,I,rfl,q⟩
 have go:∀{k:Bool},RcNeAt X.A s v u k->k=?g9->?wL (?c7 .NotEq v u):=fun h1 h2=>by
  subst h2;exact h1 ?aU X.w ?Q _ fin
 cases d with
 | non =>
   cases (show x=.non from hd);cases (show v=Value.none from rx);cases e with
   | non=>ext d2;exact go ?rP rfl
   | bl b=>ext d0;exact go (.none_bool b) rfl
   | int i=>ext d6;ext T;exact ?vW ?kP
   | str z=>ext d8;ext T;exact ?vW ?iP
   | tup es=>ext bB;ext b8;exact ?vW ?j3
   | lst es=>ext bB;ext b9;exact ?vW ?jU
 | bl c =>
   cases (show x=.bl c from hd);cases (show v=Value.bool c from rx);cases e with
   | non=>ext d2;exact go (.bool_none c) rfl
   | bl b=>ext d0;exact ?vW ?lL
   | int i=>ext d6;ext T;exact ?vW ?iQ
   | str z=>ext d8;ext T;exact ?vW ?k1
   | tup es=>ext bB;ext b8;exact ?vW ?i9
   | lst es=>ext bB;ext b9;exact ?vW ?l5
 | int c =>
   cases (show x=.int c from hd);obtain⟨t,rfl⟩:=rx;cases e with
   | non=>ext d2;exact ?vW ?kC
   | bl b=>ext d0;exact ?vW ?kV
   | int i=>ext d6;ext B;exact ?vW ?iZ
   | str z=>ext d8;ext B;exact ?vW ?kF
   | tup es=>ext bB;ext b8;exact ?vW ?k8
   | lst es=>ext bB;ext b9;exact ?vW ?iS
 | str c =>
   cases (show x=.str c from hd);obtain⟨t,rfl⟩:=rx;cases e with
   | non=>ext d2;exact ?vW ?kZ
   | bl b=>ext d0;exact ?vW ?k5
   | int i=>ext d6;ext B;exact ?vW ?jE
   | str z=>ext d8;ext B;exact ?vW ?iR
   | tup es=>ext bB;ext b8;exact ?vW ?j5
   | lst es=>ext bB;ext b9;exact ?vW ?jM
 | tup ds =>
   obtain⟨a,vs,rfl,q1,r⟩:=hd;cases rx;obtain⟨its,rv,p,_⟩:=?a7 q1;ext uZ
   cases e with
   | non=>ext d2;exact ?vW ?iX
   | bl b=>ext d0;exact ?vW ?jG
   | int i=>ext d6;ext B;exact ?vW ?j8
   | str z=>ext d8;ext B;exact ?vW ?i8
   | lst es=>ext hD;obtain⟨its',_,p',_⟩:=?fD;exact ?vW ?lW
   | tup es =>
     ext hD;obtain⟨its',HJ,p',_⟩:=?g8;refine go (RcNeAt.tuples p p' O9m (?wG I)) ?_;ext hA
     ext hC
     rw[e1,e2];ext mC
     . rw[?g7,←hl,qt3];simp
     . ext v2
       rw[z,Bool.and_false]
 | lst ds =>
   obtain⟨a,vs,rfl,q1,r⟩:=hd;cases rx;obtain⟨its,rv,p,_⟩:=?a9 q1;ext uZ
   cases e with
   | non=>ext d2;exact ?vW ?kH
   | bl b=>ext d0;exact ?vW ?l6
   | int i=>ext d6;ext B;exact ?vW ?jR
   | str z=>ext d8;ext B;exact ?vW ?lF
   | tup es=>ext hD;obtain⟨its',_,p',_⟩:=?g8;exact ?vW ?m0
   | lst es =>
     ext hD;obtain⟨its',HJ,p',_⟩:=?fD;ext hA
     ext hC
     by_cases hl:?sY
     . refine go (RcNeAt.lists ?D ?dE O9m O9m (?wG I)) ?_;rw[e1];ext dA;rw[?g7]
     . refine go (?x0 RcNeAt.lists_lengths) ?_;ext dA;rw[Ph hl];rfl
def iB(n:String):?jI
 | ?E=>false
 | .bl _=>n==?a4 || n==?cB
 | ?f _=>n==?a4
 | ?S _=>n==?eM
 | ?z _=>n==?aW
 | ?h _=>n==?aL
def tyD:D->String
 | ?E=>"NoneType"
 | .bl _=>?cB
 | ?f _=>?a4
 | ?S _=>?eM
 | ?z _=>?aW
 | ?h _=>?aL
theorem WC[?c4]{n:String}{d:D}(hn:?jQ):PySem.W.kitOne K (?a3 (tyD d)) (?a3 n)=?c (iB n d):=by
 rcases hn with rfl | rfl | rfl | rfl | rfl | rfl<;>cases d<;>(unfold PySem.W.kitOne PySem.W.kitCls PySem.W.subIn tyD iB;first | rfl | ext a6)
theorem DZ:?xX ?fC (fun xs H Q=>∃x n d,xs=[x,.ty n]/\(?jQ)/\?iH/\?wU (iB n d)):=by
 ext eU;obtain⟨x,n,d,rfl,hn,hx,q⟩:=h;obtain⟨u,v,rfl,rx,rt⟩:=CD r;cases rt;have k:=WC (K:=X.K) (d:=d) hn;have fin:∀tk,EP X Ac σ Q (?bL (iB n d)) { s with toks:=tk }:=fun tk=>⟨.bl (iB n d),H,I.tok tk,rfl,q⟩
 cases d with
 | non=>cases (?xO ?E);cases (show ?nM from rx);exact ?w3 PySem.W.kitx_none ?gB
 | bl b=>cases (?xO ?b6);cases (show u=?e8 b from rx);exact ?w3 PySem.W.kitx_bool ?gB
 | int b=>cases (?xO ?h0);obtain⟨t,rfl⟩:=rx;exact ?w3 PySem.W.kitx_int ?gB
 | str b=>cases (show x=?S b from hx);obtain⟨t,rfl⟩:=rx;exact ?w3 PySem.W.kitx_str ?gB
 | tup ds =>
   obtain⟨a,vs,rfl,hq,_⟩:=hx;cases rx;obtain⟨its,_,⟨o,e,c,_⟩,_⟩:=?f5;exact ?w3 PySem.W.kitx_tuple ?qH
 | lst ds =>
   obtain⟨a,vs,rfl,hq,_⟩:=hx;cases rx;obtain⟨its,_,⟨o,_,e,c,_⟩,_⟩:=?bQ;exact ?w3 PySem.W.kitx_list ?qH
inductive OQ[?d][?aN]:Prop
 | mk:∀a b xs ys,?eG->(y=?i b)->?fK->(Dy K H b ys)->(?x1 ys.length)->?xG (xs++ys) ?qM
def SW[?d]:R2:=?w2 ?qM
theorem QJ:?x5 SW X.K:=by
 ext bX;obtain⟨a,b,xs,ys,rfl,rfl,ha,hb,hz,q⟩:=h;by_cases hx:xs=[]
 . subst hx;ext uT;cases r1;obtain⟨⟨cls,dd,data,sl⟩,ho,hc,n,hd⟩:=id p1;obtain⟨⟨Ag8,dd2,data2,sl2⟩,ho2,hc2,n2,hd2⟩:=id p2;ext vL
   exact ?rH ?kO ?q7 noFill_tuple_add seq_tuple_add qs6 qr9 (qr2 _ _)
    (tuple_addW0 a b _ _ n n2 dd dd2 sl sl2 ?W) ⟨ho,ho2,⟨?i b,H,I,rfl,q b H (Same.refl H) (by simpa using hb)⟩⟩
 . refine qK Ac s σ H ?cD (?i b) v u Q I rx ry ⟨a,b,xs,ys,rfl,rfl,ha,hb,hx,hz,fun e=>?_,fun e p hp=>?_⟩
   . subst e;exact q a H (Same.refl H) (by simpa using ha)
   . exact ?tP
inductive OO[?d][?mE]:Prop
 | mk:∀a xs,?eG->?fK->(¬(?aP=0/\?eF=xs.length))->?xG (?cC) ?qQ
def sW[?d]:?e1:=?xB ?qQ
theorem PN:YN X (sW X.K):=by
 ext mB;obtain⟨a,xs,rfl,hx,hw,q⟩:=h;exact vA Ac s σ H ?cD v vl vu lo hi sl Q I rx hs pl pu ⟨a,xs,rfl,hx,hw,fun p hp=>?tP⟩
inductive iW[?d][?aN]:Prop
 | mk:∀l b xs zs,?fP->(y=?i b)->(?xC l xs)->(?xC b zs)->(?x1 zs.length)->(?vY (?h (xs++zs)))->?sZ
def lZ[?d]:R2:=?w2 ?sZ
theorem mK:?x5 lZ X.K:=by
 ext bX;obtain⟨l,b,xs,zs,rfl,rfl,hl,hb,hz,q⟩:=h;cases rx;cases ry;obtain⟨its,r1,p1,_⟩:=?a9 hl;obtain⟨its2,r2,p2,_⟩:=?a9 hb;obtain⟨⟨cls,dd,data,sl⟩,n,ho,hc,hdd,hd⟩:=id p1;obtain⟨⟨Ag8,dd2,data2,sl2⟩,n2,ho2,hc2,hdd2,hd2⟩:=id p2;ext vL
 refine ?rH ?kO ?q7 noFill_list_add seq_list_add PySem.F.slot_list_add PySem.F.entry_list_add (PySem.F.args_list_add_2 _ _)
  (list_addW l b ?y its2.toArray n n2 dd dd2 sl sl2 (by rw[qb8,qb8,←r1.length,←r2.length];exact hz)) ⟨ho,ho2,?_⟩
 rw[show its.toArray++its2.toArray=(its++its2).toArray by simp];exact⟨?cF,_,I.lnew (t':=s.toks) (r1.append r2) (?oF),rfl,?s3⟩
theorem KY[?hS]:?xX "all" (fun xs H Q=>∃(p:Addr) (bs:?pJ),?e6/\SqL X.K H p (bs.map V.bl)/\?wU (bs.all id)):=by
 ext eU;obtain⟨p,bs,rfl,hq,q⟩:=h;obtain⟨u,rfl,ru⟩:=P6 r;cases ru;obtain⟨its,rv,pl,hz⟩:=?bQ;have hh:X.A.handled=none:=I.ok.hd hc
 have rel:∀(i:Nat) (v:Value),its.toArray[i]?=?I->∃b,?g4=?c b/\v=?bL b:=fun i v e=>by
  have e':its[i]?=?I:=?rZ
  have hlt:i<its.length:=(?cJ e').1;have l1:=rv.length;rw[qa2]at l1;have hb:?g4=?c (bs[i]' ?cN):=?aA
  obtain⟨u,hu,ru⟩:=?jO (i:=i) (x:=V.bl (bs[i]' ?cN)) (by rw[qa9,hb];rfl);rw[e']at hu;cases hu;exact⟨_,hb,ru⟩
 refine call_all_walk (qs9 ?dJ ?_);refine⟨?R,[s.heap.objs.size,p],[s.heap.objs.size],?jB,_,_,?mW,rfl,Walks.list (show X.A.in1.handled=none from hh) ?R p ?_ ?y,⟨⟨_,?g3,rfl,rfl⟩,?_⟩,?_,fun h' tk k=>?_⟩
 . obtain⟨o,_,ho,_⟩:=pl;exact qc5 (qb2 ho)
 . exact pl.isList.at fun o e=>?f4
 . intro i v s' Q' E' hv hQ;obtain⟨b,hb,rfl⟩:=rel i v hv;dsimp only at hQ;rw[hb]at hQ;exact qj3 hQ
 . have e:(?e0 ?jB).all (?mW)=bs.all id:=by
    have l1:=rv.length;rw[qa2]at l1;rw[qb8,←l1];rw[qm0,qe9,qe9];constructor
    . intro hx b hb;obtain⟨i,hi⟩:=qh8 hb;have:=hx i (qd8.mpr ?fW);rw[hi]at this;exact this
    . intro hx i hi;have hlt:=qd8.mp hi;have hb:?g4=?c bs[i]:=?K
      rw[hb];exact hx _ (qe8 _)
   rw[e];have I1:Bk X Ac σ H { s with heap:=h',toks:=tk }:=I.kept (fun b o e=>k b o (by simp;exact qc5 (?h1)) (?f4));exact⟨.bl (bs.all id),H,I1,rfl,q⟩
universe e9
structure Has(P:Program)(w:World)[?d](mg:?h9)(base:Heap)(x:Str)(ps:?bV)(k:Nat)(sp:Sp):Prop where
 ex:∃(f:Addr) (fd:FuncData),mg x=?c (?i f)/\?jJ/\?sA/\?x9 k
section
variable{X:Cx}{x:Str}{ps:?bV}{j k:Nat}{sp:Sp}{p pos:Pos}{e:Expr}{es:?e4}{t:TA}
theorem Aq(h:Has ?aU X.w X.K X.mg X.base x ps j sp)(hr:F6 k X.A)(ha:?oZ)(hg:Gl X x:=by rfl)(hk:j<=k:=by decide)(hdb:?mY:=by decide)
 (he:?l4=(?eK,eval e ?m)::?gM:=by rfl) (hpl:(?j6 pos (?gM)).any (·.1)=false:=by rfl):PE X (.Call (.Name x p) ?dF [] pos) (tCall sp [] E0 t):=by
 obtain⟨f,fd,h1,h2,h3,h4⟩:=h.ex;exact qI h4 (hr.mono hk) hg h1 h2 h3 ?P CV ha hdb he hpl
universe e9
theorem boot_intT:?Y ?a4=?c (?a3 ?a4):=?aH
theorem Yz:?Y ?cB=?c (?a3 ?cB):=?aH
theorem Ku:?Y ?aW=?c (?cI):=?aH
theorem Dc:?Y ?aL=?c (?L):=?aH
theorem Nj:?Y ?h5=?c (?a3 ?h5):=?aH
theorem LB:?Y "max"=?c (?F "max"):=?aH
theorem LA:?Y "min"=?c (?F "min"):=?aH
theorem Ps:?Y "all"=?c (?F "all"):=?aH
theorem B4:?Y ?fC=?c (?F ?fC):=?aH
universe L2
namespace L2
open PySem PySem.Spec PyProof.Rows
section
variable{X:Cx}[?c4]{tg l:Expr}{tl:TE}{n:Nat}
theorem E8.imp{X:Cx}{f:Value}{r r':?bP}(h:E8 X f r)(i:∀xs H Q,r' xs H Q->r xs H Q):E8 X f r':=fun Ac s σ H xs us Q I v q=>h Ac s σ H xs us Q I v (i xs H Q q)
inductive oQ[?d][?eW]:Prop
 | mk:?y1 (Q (?f ys.length) H) ?uC
def zR[?d]:?bP:=?x2 ?uC
inductive EH[?d][?eW]:Prop
 | mk:?y1 (?pI) ?r6
def pV[?d]:?bP:=?x2 ?r6
inductive IT[?d][?eW]:Prop
 | mk:∀p ys,?f6->(((?lK/\?rY)\/(?jF/\Q ?b0 H)))->?nF
def vD[?d]:?bP:=?x2 ?nF
inductive EI[?d][?eW]:Prop
 | mk:∀x n d,(xs=[x,.ty n])->((?jQ))->?gE->(?wU (iB n d))->?rL
def PV[?d]:?bP:=?x2 ?rL
inductive OR[?d][?eW]:Prop
 | mk:∀(p:Addr) (bs:?pJ),?f6->(?xC p (bs.map V.bl))->(?wU (bs.all id))->?oW
def zU[?d]:?bP:=?x2 ?oW
theorem Sm[?s]:?x5 SW K:=by subst hK;exact QJ
theorem T8[?s]:?x5 lZ K:=by subst hK;exact mK
theorem L1[?s]:YN X (sW K):=by subst hK;exact PN
theorem L3[?s]:YN X (ZP K):=by subst hK;exact pO
theorem Bc[?s]:IxR X (zS K):=by subst hK;exact RC
theorem Bj[?s]:IxR X (ZR K):=by subst hK;exact WG
theorem Az[?s]:?xX "len" (zR K):=?xN bV
theorem E3[?s]:E8 X (?L) (pV K):=?xN BU
theorem Kc[?s]:E8 X (?cI) (vD K):=by subst hK;exact(c8).imp fun _ _ _ z=>by obtain⟨p,ys,a,b⟩:=z;exact⟨p,ys,a,b⟩
theorem C3[?s]:?xX ?fC (PV K):=by subst hK;exact(DZ).imp fun _ _ _ z=>by obtain⟨x,n,d,a,b,c,e⟩:=z;exact⟨x,n,d,a,b,c,e⟩
theorem M9[?hS][?s]:?xX "all" (zU K):=by subst hK;exact(KY hc).imp fun _ _ _ z=>by obtain⟨p,bs,a,b,c⟩:=z;exact⟨p,bs,a,b,c⟩
theorem M8[?bD][?s]:?xD K:=?w4 JM hu
theorem QZ[?bD][?s]:OpR X ?n8 (zT K n):=?w4 VL hu
theorem iA[?bD][?s]:?xT K:=?w4 vK hu
theorem JV[?bD][?s]:MtR X ?t6 (LY K n):=?w4 mT hu
theorem Ca(hl:?oH)[?s]:PI X tg l (tV K tl):=?w4 QD hl
theorem Wc(hl:?oH)[?s]:PI X tg l (Ac3 K tl):=?w4 vH hl
variable[?uU]
theorem Fw[?uM][?s]
 [?v4]
 (hfew:(?qJ
   && ?w0 1)=true:=by rfl)
 [?uN] (hplain:?i0 (·.1)=false:=by rfl) :
 ?w8 K:=by subst hK;exact zW pa slot hty hm ho ha hbase hfew hline hs hplain
theorem Ea{es:?e4}{k:Nat}{t:pC}{n:Nat}{pos:Pos}[?hS](h:PGs X es t)[?s]
 (hn:(?p0).length=n:=by rfl) (hst:(?p0).findIdx? (·.1)=none:=by rfl):PG X (.Tuple es k pos) (Ae9 K n t):=by subst hK;exact VH hc h hn hst
universe e9
universe L2
namespace Hb
def Ax[?U](fam:Int):Ar :=
 if ?eA then(if w.length<2 then [] else(?e0 w.length).map fun i=>w.take i++?kN ?aI)
 else if ?sK then []
 else if ?aS then(if ?oI then [[],[]] else w.map fun l=>[l])
 else ?kN 1::((?e0 (?i1)).map fun i=>w.take i++[(w.getD i 0+w.getD ?aI 0)%fam]++?kN (i+2))++[w.take (?i1)]
def Fa(fam:Int)[?U]:Prop :=
 (?eA/\1<=w.length/\w.length<=4)\/(?aS/\(?sK\/?oI\/?q8))\/(?c6/\w.length<=3)
def lv(fam:Int)[?U]:Nat:=if ?eA then ?i1 else if ?aS then(if ?q8 then 2 else w.length) else w.length
theorem Qq[?c5][?c3](h:?u) :
 (?eA/\((∃a,w=[a])\/(∃a b,w=?aF)\/(?lS)\/∃a b c d,w=?kL)) ∨
 (?aS/\(w=[]\/(∃a,w=[a])\/?lS)) ∨
 (?c6/\(w=[]\/(∃a,w=[a])\/(∃a b,w=?aF)\/?lS)):=by
 rcases h with⟨h0,h1,h2⟩|⟨h0,h1⟩|⟨h0,h1⟩
 . left;refine ?hY
   match w,h1,h2 with
   | [a],_,_=>exact ?j ⟨a,rfl⟩
   | ?aF,_,_=>exact ?e (?j ⟨a,b,rfl⟩)
   | ?bT,_,_=>exact ?e (?e (?j ?j1))
   | ?kL,_,_=>exact ?e (?e (?e ⟨a,b,c,d,rfl⟩))
   | _::?j4,_,h=>simp at h
 . right;left;refine ?hY
   match w,h1 with
   | [],_=>exact ?e2
   | [a],_=>exact ?e (?j ⟨a,rfl⟩)
   | ?aF,h=>simp at h
   | ?bT,_=>exact ?e (?e ?j1)
   | ?j4,h=>simp at h
 . right;right;refine ?hY
   match w,h1 with
   | [],_=>exact ?e2
   | [a],_=>exact ?e (?j ⟨a,rfl⟩)
   | ?aF,_=>exact ?e (?e (?j ⟨a,b,rfl⟩))
   | ?bT,_=>exact ?e (?e (?e ?j1))
   | ?j4,h=>simp at h
theorem Af7(a:Int):Ax [a] 0=[]:=rfl
theorem Af6(a b:Int):Ax ?aF 0=[[b],[a]]:=rfl
theorem xE(a b c:Int):Ax ?bT 0=[[b,c],[a,c],?aF]:=rfl
theorem XD(a b c d:Int):Ax ?kL 0=[[b,c,d],[a,c,d],[a,b,d],?bT]:=rfl
section
variable[?c5]
theorem Af5(h:?aS):?xI []=[]:=?sP
theorem NQ(h:?aS)(a:Int):?xI [a]=[[],[]]:=by unfold Ax;rw[?dG,?eH,?n h,?jV]
theorem XA(h:?aS)(a b c:Int):?tR=[[a],[b],[c]]:=by unfold Ax;rw[?dG,?eH,?n h,?eH];rfl
theorem Af3(h:?c6):?xI []=[]:=?sP
theorem NO(h:?c6)(a:Int):?xI [a]=[[],[]]:=?jD
theorem bI(h:?c6)(a b:Int):?xI ?aF=[[b],[?oQ],[a]]:=?jD
theorem xA(h:?c6)(a b c:Int):?tR=[[b,c],[?oQ,c],[a,(b+c)%fam],?aF]:=?jD
theorem Nh{w f:?k}(h:?u)(hf:f∈?N):Fa fam f/\lv fam f+1=?cH:=by
 ext m6
 . subst h0;rw[Af7]at hf;exact ?i2
 . subst h0;rw[Af6]at hf;ext d4;rcases hf with rfl | rfl<;>simp[Fa,lv]
 . subst h0;rw[xE]at hf;ext d4;rcases hf with rfl | rfl | rfl<;>simp[Fa,lv]
 . subst h0;rw[XD]at hf;ext d4;rcases hf with rfl | rfl | rfl | rfl<;>simp[Fa,lv]
 . rw[Af5 h0]at hf;exact ?i2
 . rw[?eR]at hf;ext vH;ext bZ
   simp[Fa,lv,h0,e]
 . rw[XA h0]at hf;ext bZ
   ext d4;rcases hf with rfl | rfl | rfl<;>simp[Fa,lv,h0,e]
 . rw[Af3 h0]at hf;exact ?i2
 . rw[?eC]at hf;ext bZ
   ext eY
   ext vH;simp[Fa,lv,h0,e,e']
 . rw[?aJ]at hf;ext bZ
   ext eY
   ext d4;rcases hf with rfl | rfl | rfl<;>simp[Fa,lv,h0,e,e']
 . rw[xA h0]at hf;ext bZ
   ext eY
   ext d4;rcases hf with rfl | rfl | rfl | rfl<;>simp[Fa,lv,h0,e,e']
theorem Ju[?c3](h:?u):?sB=(if ?gP then 0 else ?cH+1)/\?cH<=3:=by
 ext m6
 . subst h0;simp[Af7,lv]
 . subst h0;simp[Af6,lv]
 . subst h0;simp[xE,lv]
 . subst h0;simp[XD,lv]
 all_goals ext bZ
 . simp[Af5 h0,lv,e,h0]
 . simp[?eR,lv,e,h0]
 . simp[XA h0,lv,e,h0]
 all_goals ext eY
 . simp[Af3 h0,lv,e,e']
 . simp[?eC,lv,e,e']
 . simp[?aJ,lv,e,e']
 . simp[xA h0,lv,e,e']
theorem faces_agree{w f g:?k}{i j:Nat}(h:?u)(hl:2<=?cH)(hij:i<j)(hf:?cP[j]?=?c f)(hg:?cP[i]?=?c g):(?pW)[i]?=(?xI g)[j-1]?:=by
 have hj:j<?sB:=(?cJ hf).1;ext m6
 . subst h0;simp[lv]at hl
 . subst h0;simp[lv]at hl
 . subst h0;rw[xE]at hf hg hj;ext m8
   ext mA
   . ext o;rfl
   . ext o;rfl
   . ext o;rfl
 . subst h0;rw[XD]at hf hg hj;ext uO
   ext uR
   . ext o;rfl
   . ext o;rfl
   . ext o;rfl
   . ext o;rfl
   . ext o;rfl
   . ext o;rfl
 all_goals ext bZ
 . simp[lv,e,h0]at hl
 . simp[lv,e,h0]at hl
 . rw[XA h0]at hf hg hj;ext m8
   ext mA
   . ext o;simp[?eR]
   . ext o;simp[?eR]
   . ext o;simp[?eR]
 all_goals ext eY
 . simp[lv,e,e']at hl
 . simp[lv,e,e']at hl
 . rw[?aJ]at hf hg hj;ext m8
   ext mA
   . ext o;simp[?eC]
   . ext o;simp[?eC]
   . ext o;simp[?eC]
 . rw[xA h0]at hf hg hj;ext uO
   ext uR
   . ext o;simp[?aJ]
   . ext o;simp[?aJ]
   . ext o;simp[?aJ]
   . skip
     ext o;simp only[?aJ,List.getElem?_cons_succ,qs2,Nat.add_one_sub_one]
     congr 2
     rw[Int.add_emod_emod,Int.emod_add_emod,Int.add_assoc]
   . ext o;simp[?aJ]
   . ext o;simp[?aJ]
universe e9
def lev(p:?k):Nat:=p.length-1
structure Ai6(xs:Ar)(p:?k):Prop where
 cnt:p.length=0\/p.length=2\/p.length=3\/p.length=4
 low:∀f∈p,0<=f
 bel:∀f∈p,∃q,?sT/\lev q+1=lev p
 agr:3<=p.length->∀(i j:Nat) (f g:Int) (q r:?k),i<j->p[j]?=?c f->p[i]?=?c g->?sT->xs[g.toNat]?=?c r->q[i]?=r[j-1]?
def C9(xs:Ar):Prop:=∀(k:Nat) (p:?k),xs[k]?=?c p->Ai6 (?qB) p
def iR(fam:Int)(ws:Ar):Prop:=∀(k:Nat) [?U],?s6->?u/\∀f∈?N,f∈ws.take k
theorem iR.nil[?c5]:iR fam []:=fun k w h=>?jW
theorem iR.snoc[?c5]{ws:Ar}[?c3][?hW](hw:?u)(hf:?m1):iR fam (?kM):=by
 intro k v hk;by_cases hlt:k<ws.length
 . rw[qd1 hlt]at hk;rw[qp1 ?G];exact h k v hk
 . have hk':k<(?kM).length:=(?cJ hk).1;have e:k=ws.length:=by simp at hk';omega
   subst e;simp at hk;subst hk;rw[qp1 ?M,qd9];exact⟨hw,hf⟩
theorem iR.mem[?c5]{ws:Ar}[?hW][?c3](hw:w∈ws):?u/\?m1:=by
 obtain⟨k,hk⟩:=qh8 hw;obtain⟨h1,h2⟩:=h k w hk;exact⟨h1,fun f hf=>qp3 (?fU)⟩
def Ev(ws:Ar):Ar->Ar
 | []=>ws
 | ?bI=>Ev (?jN) r
theorem Y9:∀(rows ws:Ar),(?eP).length<=ws.length+rows.length
 | [],ws=>by simp[Ev]
 | ?bI,ws=>by
   have h1:=Y9 r (?jN)
   have h2:(?jN).length<=ws.length+1:=by
    split
    . omega
    . simp
   simp only[Ev,qc8];omega
theorem Y8[?c5]:∀(rows ws:Ar),?r2->(∀(k:Nat) [?U],rows[k]?=?dX->?u/\∀f∈?N,?cM\/f∈rows.take k)->iR fam (?eP)
 | [],ws,h,_=>h
 | ?bI,ws,h,hr=>by
   have h0:=hr 0 w rfl;have hw:?m1:=fun f hf=>(h0.2 f hf).resolve_right ?W;simp only[Ev];refine Y8 r _ ?_ fun k v hk=>?_
   . split
     . exact h
     . exact h.snoc h0.1 hw
   . obtain⟨h1,h2⟩:=hr (k+1) v (?l7);refine ?pN;rcases ?fU with z | z
     . left;split
       . exact z
       . exact qm5 _ z
     . rw[List.take_succ_cons]at z;rcases ?cY z with z | z
       . left;subst z;split
         . assumption
         . simp
       . exact ?e z
def C0(ws:Ar):?jX
 | acc,[]=>acc
 | acc,f::r=>C0 ws (?jK) r
theorem Y6{ws:Ar}[?dC]:∀[?f1],?kY->?dW\/x∈fs
 | [],acc,h=>?j h
 | f::r,acc,h=>by
   rcases Y6 r _ h with z | z
   . split at z
     . rcases qn9.mp z with z | z
       . exact ?aQ
       . exact ?e (by simp at z;simp[z])
     . exact ?aQ
   . exact ?e (qc7 _ z)
theorem Pa{ws:Ar}[?dC]:∀[?f1],?dW->?kY
 | [],acc,h=>h
 | f::r,acc,h=>Pa r _ (by split;exact qm5 _ h;exact h)
theorem Y7{ws:Ar}[?dC]:∀[?f1],x∈fs->?jZ\/?kY
 | f::r,acc,h=>by
   ext hK
   . subst e;by_cases h1:?jZ
     . exact ?j h1
     . right;refine Pa r _ ?_;by_cases h2:?dW
       . rw[?w (by simp[h2])];exact h2
       . rw[?n ⟨h1,h2⟩];simp
   . exact Y7 r _ e
theorem Rm{ws:Ar}:∀[?f1],?x3 ?dN fs.length
 | [],acc=>by simp[C0]
 | f::r,acc=>by
   have h1:=Rm (ws:=ws) r (?jK)
   have h2:?x3 ?jK 1:=by
    split
    . simp
    . omega
   simp only[C0,qc8];omega
def below[?hU]:?jX
 | acc,[]=>acc
 | acc,?bI=>?xE (C0 ws acc ?cP) r
theorem Pw[?bE][?dC]:∀(l acc:Ar),?i6->?dW\/∃w∈l,x∈?N
 | [],acc,h=>?j h
 | ?bI,acc,h=>by
   rcases Pw r _ h with z|⟨v,hv,z⟩
   . rcases Y6 _ _ z with z | z
     . exact ?aQ
     . exact ?e ⟨w,qe4,z⟩
   . exact ?e ⟨v,?sU,z⟩
theorem Y2[?bE][?dC]:∀(l acc:Ar),?dW->?i6
 | [],acc,h=>h
 | ?bI,acc,h=>Y2 r _ (Pa _ _ h)
theorem AE[?bE]{x w:?k}:∀(l acc:Ar),w∈l->x∈?N->?jZ\/?i6
 | v::r,acc,h,hx=>by
   ext hK
   . subst e;rcases Y7 (ws:=ws) _ acc hx with z | z
     . exact ?aQ
     . exact ?e (Y2 r _ z)
   . exact AE r _ e hx
theorem Me[?bE]:∀(l acc:Ar),(∀w∈l,?u)->?x3 ?lN ?oG
 | [],acc,_=>by simp[below]
 | ?bI,acc,h=>by
   have h1:=Me (ws:=ws) r (C0 ws acc ?cP) fun v hv=>h v (?sU);have h2:=Rm (ws:=ws) ?cP acc;have h3:=Ju (h w qe4);simp only[below,qc8];split at h3<;>omega
theorem Vj(ws:Ar)(f:?k):∀[?f1],C0 ws acc (fs++[f])=(if ?pL/\f ∉ ?dN then ?dN++[f] else ?dN)
 | [],acc=>rfl
 | g::fs,acc=>Vj ws f fs _
theorem Y1[?hU][?U]:∀(l acc:Ar),?xE acc (l++[w])=C0 ws (?lN) ?cP
 | [],acc=>rfl
 | v::l,acc=>Y1 ws fam w l _
theorem Vk[?U]:∀(rows ws:Ar),Ev ws (rows++[w])=(if w∈?eP then ?eP else ?eP++[w])
 | [],ws=>rfl
 | v::rows,ws=>Vk w rows _
def M6[?hU]:Nat->?jX
 | 0,layer,rows=>rows
 | n+1,layer,rows=>M6 ws fam n (?xE [] layer) (layer++rows)
theorem r6[?bE]:∀(n:Nat) (layer rows:Ar),(∀w∈layer,?u/\?cH<n) →
 (∀(k:Nat) [?U],rows[k]?=?dX->?u/\∀f∈?N,?cM\/f∈layer\/f∈rows.take k) →
 ∀(k:Nat) [?U],(?sW)[k]?=?dX->?u/\∀f∈?N,?cM\/f∈(?sW).take k
 | 0,layer,rows,hl,hr,k,w,hk=>by
   obtain⟨h1,h2⟩:=hr k w hk;ext v9
   . exact ?aQ
   . exact ?C (hl f z).2 O9m
   . exact ?e z
 | n+1,layer,rows,hl,hr,k,w,hk=>by
   refine r6 n _ _ ?_ ?_ k w hk
   . intro v hv;rcases ?oP with z|⟨u,hu,z⟩
     . exact ?l2
     . obtain⟨q1,q2⟩:=hl u hu;obtain⟨q3,q4⟩:=Nh q1 z;exact⟨q3,O9m⟩
   . intro m v hm;by_cases hlt:m<layer.length
     . rw[qd1 hlt]at hm;have hv:v∈layer:=qc6 hm;refine⟨(hl v hv).1,?oA⟩;rcases AE (ws:=ws) layer [] hv hf with z | z
       . exact ?aQ
       . exact ?e (?aQ)
     . rw[qe0 ?G]at hm;obtain⟨h1,h2⟩:=hr _ v hm;ext v9
       . exact ?aQ
       . right;right;rw[List.take_append];refine qm5 _ ?_;rw[ql8 ?G];exact z
       . right;right;rw[List.take_append];exact qg1 _ z
def Pc(ws:Ar)[?U](fam:Int):Ar:=Ev ws (?rM)
theorem Zi{ws:Ar}[?c3][?c5][?hW](hw:?u):iR fam (?nK):=by
 refine Y8 _ _ h (r6 4 [w] [] ?_ ?_)
 . intro v hv;have e:v=w:=?p1
   subst e;exact⟨hw,by have:=(Ju hw).2;omega⟩
 . intro k v hk;simp at hk
def bB(ws:Ar)(f:?k):Nat:=?jT (·==f)
theorem RE{ws:Ar}{f:?k}(h:?cM):ws[?eB]?=?c f:=by
 unfold bB;have hl:?jT (·==f)<ws.length:=List.findIdx_lt_length_of_exists ?rU;rw[qa0 hl];have:=List.findIdx_getElem (xs:=ws) (p:=(·==f)) (w:=hl);simpa using this
theorem wJ{ws:Ar}{f:?k}{k:Nat}(h:f∈ws.take k):?eB<k:=by
 unfold bB;obtain⟨i,hi⟩:=qh8 h;have hlt:i<(ws.take k).length:=?fW;rw[ql9]at hi;split at hi
 . rename_i hik
   have hl:i<ws.length:=?fW
   have e:ws[i]=f:=by
    rw[qa0 hl]at hi;exact qd3 hi
   have hle:?jT (·==f)<=i:=by
    apply qg9;intro hgt;have:=List.not_of_lt_findIdx hgt;simp[e]at this
   omega
 . cases hi
def Ml[?hU]:Ar:=ws.map fun w=>?fG ?m2
theorem cN[?bE]{k:Nat}[?c3](h:?s6):(?iM)[k]?=?c (?fG ?m2):=by
 unfold Ml;rw[qa9,h];rfl
theorem Zm[?bE][?hW]:C9 (?iM):=by
 intro k p hp;unfold Ml at hp;rw[qa9]at hp;cases hw:ws[k]? with
 | none=>rw[hw]at hp;cases hp
 | some w =>
   rw[hw]at hp;have wM:?fG (?m2)=p:=by simpa using hp
   subst wM;obtain⟨h1,h2⟩:=h k w hw;obtain⟨n1,n2⟩:=Ju h1
   have look:∀f∈?N,((?iM).take k)[((?eB:Nat):Int).toNat]?=?c ((?pW).map fun g=>(bB ws g:Int)):=fun f hf=>by
    have hm:=?fU;have hlt:=wJ hm;rw[qf5,ql9,?n hlt];exact cN (RE (qp3 hm))
   refine⟨?_,?_,?_,?_⟩
   . rw[qa2];by_cases hz:?gP
     . rw[?n hz]at n1;omega
     . rw[?jA]at n1;omega
   . intro f hf;obtain⟨g,_,rfl⟩:=?t1;omega
   . intro f hf;obtain⟨g,hg,rfl⟩:=?t1;refine⟨_,look g hg,?_⟩;obtain⟨w1,l1⟩:=Nh h1 hg;obtain⟨m1,_⟩:=Ju w1;unfold lev;rw[qa2,qa2];have hz:¬?gP:=O9m
     rw[?jA]at n1;by_cases hy:lv fam g=0
     . rw[?n hy]at m1;omega
     . rw[?w hy]at m1;omega
   . intro hl i j f g q r hij hf hg hq hr;rw[qa2]at hl;rw[qa9]at hf hg;cases ef:(Ax w fam)[j]? with
     | none=>rw[ef]at hf;cases hf
     | some F =>
       cases eg:(Ax w fam)[i]? with
       | none=>rw[eg]at hg;cases hg
       | some G =>
         rw[ef]at hf;rw[eg]at hg;have ef':((bB ws F:Nat):Int)=f:=by simpa using hf
         have eg':((bB ws G:Nat):Int)=g:=by simpa using hg
         subst ef' eg';rw[look F (qc6 ef)]at hq;rw[look G (qc6 eg)]at hr;cases hq;cases hr;have hz:¬?gP:=by intro z;rw[?n z]at n1;omega
         rw[?jA]at n1;rw[qa9,qa9,faces_agree h1 ?G hij ef eg]
theorem fP[?bE][?c3](hw:?u):(?rM).length<=85:=by
 have step:∀l:Ar,(∀v∈l,?kB)->(?n1).length<=?oG/\∀v∈?n1,?kB:=fun l hl=>by
  refine⟨by have:=Me (ws:=ws) l [] hl;simpa using this,fun v hv=>?_⟩;rcases ?oP with z|⟨u,hu,z⟩
  . exact ?l2
  . exact(Nh (hl u hu) z).1
 have s0:∀v∈[w],?kB:=fun v hv=>by
  have e:v=w:=?p1
  subst e;exact hw
 obtain⟨a1,b1⟩:=step _ s0;obtain⟨a2,b2⟩:=step _ b1;obtain⟨a3,b3⟩:=step _ b2;simp only[M6,qc0,qk8,qc8]at a1 a2 a3 ⊢;omega
def pc(xs:Ar)(p:Int):?k:=xs.getD p.toNat []
section
variable{xs:Ar}
universe e9
universe Hb
namespace L2
inductive E4{A0:Type}(p:A0->Prop):Prop
 | mk (x0:A0) (h:p x0):E4 p
inductive Jp{A0 A1:Type}(p:?wF A0 A1):Prop
 | mk (x0:A0) (x1:A1) (h:p x0 x1):Jp p
inductive Rs{A0 A1 A2:Type}(p:A0->?wF A1 A2):Prop
 | mk [?hP] (h:p x0 x1 x2):Rs p
inductive Qm{A0 A1 A2 A3:Type}(p:A0->A1->?wF A2 A3):Prop
 | mk [?hP] (x3:A3) (h:p x0 x1 x2 x3):Qm p
inductive bZ{A0 A1 A2 A3 A4:Type}(p:A0->A1->A2->?wF A3 A4):Prop
 | mk [?hP] (x3:A3) (x4:A4) (h:p x0 x1 x2 x3 x4):bZ p
inductive xV{A0 A1 A2 A3 A4 A5:Type}(p:A0->A1->A2->A3->?wF A4 A5):Prop
 | mk [?hP] (x3:A3) (x4:A4) (x5:A5) (h:p x0 x1 x2 x3 x4 x5):xV p
inductive XU{A0 A1 A2 A3 A4 A5 A6:Type}(p:A0->A1->A2->A3->A4->?wF A5 A6):Prop
 | mk [?b7] (h:p x0 x1 x2 x3 x4 x5 x6):XU p
inductive UK{A0 A1 A2 A3 A4 A5 A6 A7:Type}(p:A0->A1->A2->A3->A4->A5->?wF A6 A7):Prop
 | mk [?b7] (x7:A7) (h:p x0 x1 x2 x3 x4 x5 x6 x7):UK p
inductive Ex9{A0 A1 A2 A3 A4 A5 A6 A7 A8:Type}(p:A0->A1->A2->A3->A4->A5->A6->?wF A7 A8):Prop
 | mk [?b7] (x7:A7) (x8:A8) (h:p x0 x1 x2 x3 x4 x5 x6 x7 x8):Ex9 p
inductive LG{A0 A1 A2 A3 A4 A5 A6 A7 A8 A9:Type}(p:A0->A1->A2->A3->A4->A5->A6->A7->?wF A8 A9):Prop
 | mk [?b7] (x7:A7) (x8:A8) (x9:A9) (h:p x0 x1 x2 x3 x4 x5 x6 x7 x8 x9):LG p
inductive gQ{A0 A1 A2 A3 A4 A5 A6 A7 A8 A9 IY:Type}(p:A0->A1->A2->A3->A4->A5->A6->A7->A8->?wF A9 IY):Prop
 | mk [?b7] [?hJ] (h:p x0 x1 x2 x3 x4 x5 x6 x7 x8 x9 Qp):gQ p
inductive sM{A0 A1 A2 A3 A4 A5 A6 A7 A8 A9 IY UM:Type}(p:A0->A1->A2->A3->A4->A5->A6->A7->A8->A9->?wF IY UM):Prop
 | mk [?b7] [?hJ] (zB:UM) (h:p x0 x1 x2 x3 x4 x5 x6 x7 x8 x9 Qp zB):sM p
inductive xW{A0 A1 A2 A3 A4 A5 A6 A7 A8 A9 IY UM A12:Type}(p:A0->A1->A2->A3->A4->A5->A6->A7->A8->A9->IY->?wF UM A12):Prop
 | mk [?b7] [?hJ] (zB:UM) (x12:A12) (h:p x0 x1 x2 x3 x4 x5 x6 x7 x8 x9 Qp zB x12):xW p
inductive Ai7{A0 A1 A2 A3 A4 A5 A6 A7 A8 A9 IY UM A12 A13 A14 A15 A16 A17 A18:Type}(p:A0->A1->A2->A3->A4->A5->A6->A7->A8->A9->IY->UM->A12->A13->A14->A15->A16->?wF A17 A18):Prop
 | mk [?b7] [?hJ] (zB:UM) (x12:A12) (x13:A13) (x14:A14) (x15:A15) (x16:A16) (x17:A17) (x18:A18) (h:p x0 x1 x2 x3 x4 x5 x6 x7 x8 x9 Qp zB x12 x13 x14 x15 x16 x17 x18):Ai7 p
inductive Ef(p0 p1 p2:Prop):Prop
 | mk [?mR]:Ef p0 p1 p2
inductive B6(p0 p1 p2 p3:Prop):Prop
 | mk [?mR] (h3:p3):B6 p0 p1 p2 p3
inductive Ed(p0 p1 p2 p3 p4:Prop):Prop
 | mk [?mR] (h3:p3) (h4:p4):Ed p0 p1 p2 p3 p4
inductive Kh(p0 p1 p2 p3 p4 p5:Prop):Prop
 | mk [?bW]:Kh p0 p1 p2 p3 p4 p5
inductive Nm(p0 p1 p2 p3 p4 p5 p6:Prop):Prop
 | mk [?bW] (h6:p6):Nm p0 p1 p2 p3 p4 p5 p6
inductive BZ(p0 p1 p2 p3 p4 p5 p6 p7:Prop):Prop
 | mk [?bW] (h6:p6) (h7:p7):BZ p0 p1 p2 p3 p4 p5 p6 p7
inductive GR(p0 p1 p2 p3 p4 p5 p6 p7 p8:Prop):Prop
 | mk [?bW] (h6:p6) (h7:p7) (h8:p8):GR p0 p1 p2 p3 p4 p5 p6 p7 p8
inductive iY(p0 p1 p2 p3 p4 p5 p6 p7 p8 p9:Prop):Prop
 | mk [?bW] (h6:p6) (h7:p7) (h8:p8) (h9:p9):iY p0 p1 p2 p3 p4 p5 p6 p7 p8 p9
inductive uM(p0 p1 p2 p3 p4 p5 p6 p7 p8 p9 zY ZX zX ZW:Prop):Prop
 | mk [?bW] [?v6]:uM p0 p1 p2 p3 p4 p5 p6 p7 p8 p9 zY ZX zX ZW
inductive UL(p0 p1 p2 p3 p4 p5 p6 p7 p8 p9 zY ZX zX ZW p14 p15:Prop):Prop
 | mk [?bW] [?v6] (h14:p14) (h15:p15):UL p0 p1 p2 p3 p4 p5 p6 p7 p8 p9 zY ZX zX ZW p14 p15
universe L2
namespace Hb
open PySem L2
def Yu[?dB](k:Int):Int:=ns.getD ?gN 0
noncomputable abbrev LT[?d](H:Hp)(v:V)(xs:Ar):Prop:=?wX v (?h ?bN)
noncomputable abbrev TI[?d](H:Hp)(v:V)[?dB]:Prop:=?wX v (tI ns)
section
variable[?c4]{H H':Hp}
theorem TI.sq{v:V}[?c1](h:?lA):∃a,?fN/\?qY:=by
 ext hL;rw[Gi.mp r]at q;exact⟨a,e,q⟩
theorem TI.mk{a:Addr}[?c1](h:?qY):TI K H ?cD ns:=⟨a,_,rfl,h,?sO⟩
theorem TI.same{v:V}[?c1](s:?a2)(h:?lA):?o6:=?tQ s h
theorem TI.t{v:V}[?c1](s:?eJ)(h:?lA):?o6:=Rep.t s (NG ns) h
theorem S6(xs:?g)(k:Nat):Jc xs ?O (?c (k:Int))=?qB:=by
 unfold Jc;rw[HT.sIx_none,HT.sIx_nat,qw2,List.drop_zero,List.take_eq_take_iff];omega
theorem O7(xs:?g)(k:Nat):Jc xs (?c (k:Int)) ?O=xs.drop k:=by
 unfold Jc;rw[HT.sIx_none,HT.sIx_nat];by_cases h:k<=xs.length
 . rw[Nat.min_eq_left h,ql8 (by rw[qi5];omega)]
 . rw[Nat.min_eq_right ?G,List.drop_length,List.drop_of_length_le ?G];simp
theorem jJ{D:Addr}{ys:?g}{v:V}{d:L2.D}{ds:?l L2.D}(hD:H D=?c ?b3)(r:?x6 ys ds)(rv:?b2)(hi:imms (ds++[d])=true):?xW (ds++[d]) :=
 (r.snoc rv).t (Tc.lst hD) hi
theorem Mx{D:Addr}{ys:?g}{v:V}{xs:Ar}[?dC](hD:H D=?c ?b3)(r:?x6 ys ?bN)(rv:TI K H v x):?xW ((xs++[x]).map tI):=by
 have e:(xs++[x]).map tI=?kI++[tI x]:=?K
 have h:=X4 (xs++[x]);rw[e]at h ⊢;exact jJ hD r rv h
def SameX(B:Addr)(H H':Hp):Prop:=∀b o,b≠B->?sI
theorem SameX.refl(B:Addr)(H:Hp):?dT B H H:=fun _ _ _ h=>h
theorem SameX.trans{B:Addr}{H H1 H2:Hp}[?hR](b:?dT B H1 H2):?dT B H H2:=fun c o n h=>b c o n (a c o n h)
theorem SameX.of[?mU](a:?iW):?s2:=fun c o _ h=>a c o h
theorem SameX.upd[?mU]{o:HO}[?hR]:?dT B H (upd H1 B o):=fun c u n h=>by rw[Al n];exact a c u n h
theorem SameX.t[?mU]{us:?g}[?hR](h:H B=?l3):Tc H H1 :=
 ⟨fun b xs e=>?pF,fun b o u e=>?pF⟩
theorem SameX.same{B:Addr}{H0 H H1:Hp}[?hR](s:?aG H0 H)(h:H0 B=none):?aG H0 H1:=fun b o e=>a b o (Ap e h) (s b o e)
theorem Pp:∀ns:?k,deps ?cQ=0
 | []=>rfl
 | n::ns=>by show max (dep (?gT)) (deps ?cQ)=0;rw[Pp ns];rfl
theorem Mb:∀xs:Ar,deps ?bN<=1
 | []=>?fS
 | x::xs=>by
   have h1:=Mb xs;have h2:dep (tI x)=1:=by show deps (Fg x)+1=1;rw[Pp]
   show max (dep (tI x)) (deps ?bN)<=1;omega
theorem Rl(f:?k):∀xs:Ar,(?kI).any (fun e=>eqD e (tI f))=?x (f∈xs)
 | []=>rfl
 | x::xs=>by
   rw[qd5,qm2,Rl f xs,fX];by_cases h:x=f
   . subst h;simp
   . have h':¬f=x:=fun z=>h z.symm;simp[h,h']
theorem bA[?mP](hc:c)(h:A):?iB:=by rw[?n hc];exact h
theorem Nv[?mP](hc:¬c)(h:B):?iB:=by rw[?w hc];exact h
theorem neI{a b:Int}(h:¬a=b):?tV:=?iC
theorem eqI{a b:Int}(h:a=b):¬?tV:=?iC
theorem isI{a b:Int}(h:a=b):?x (V.int a=V.int b)=true:=?iC
theorem Cr{g:TG}[?hH][?hB][?vE]
 [?uI]
 [?hG]:?w1 ?s5 jG:=?wJ Pr
theorem Uo{g:TG}[?hH][?hB][?vG]
 [?uI]
 [?hG]:?w1 ?nZ jG:=?wJ OB
theorem Il{g:TG}[?hH][?vD]
 (hs:?wQ ?sL)
 [?vS]:?w1 ?s0 jG:=Yp Pv h0 (fun i ys τ H e p=>hs i ys τ H e p) hd
theorem As[?mF][?mM][?uX]:?f7:=h hu
theorem qw5[?mF][?uX][?mM]:?f7:=h hu
theorem Gh[?mF][?mM](h:(?rT)->?f7):?f7:=h hu
theorem fV{f:?k}:∀{ws:Ar},?cM->?wP ?c ?eB:=fun {ws} h=>by
 have e:?wP ws.findIdx? ?s8:=by
  rw[List.findIdx?_map]
  congr 1
  funext w
  show eqD (tI w) (tI f)=(w==f)
  rw[fX];by_cases z:w=f
  . subst z;simp
  . simp[z]
 rw[e,List.findIdx?_eq_some_of_exists (xs:=ws) (p:=?s8) ?rU];rfl
theorem small{n:Nat}(h:?tJ):n<sizeLine:=qb5 h ?bU
theorem B9{n:Nat}(h:?tJ):?nB:=qd4 (small h)
universe e9
section
variable[?d]
def EV:Sp:=fun vs H Q _=>Rs fun ?tF ?t8 (k:Int)=>Ed (vs=[?b5,?f k]) (?fM) (0<=k) (ns.length<=63) (Q (?f (Yu ns k)) H)
def cI:Sp:=fun vs H Q _=>Rs fun(v:V) (w:?k) ?pD=>B6 (vs=[v,?m3]) (TI K H v w) (?u) (∀(p:Addr) (us:?g) (H':Hp),?aZ->?a2->?tG->?q K H' us (?fG tI)->?dO)
def eV:Sp:=fun vs H Q _=>Rs fun(c fam letters:Int)=>Ed (vs=[?f c,?m3,?f letters]) (0<letters) (letters<100) (fam<100) (∀(v:V) (H':Hp) [?U],?a2->TI K H' v w->?u->Q v H')
def Zj:Sp:=fun vs H Q _=>xV fun(l:Addr) (us:?g) (v:V) (ws:Ar) (w:?k) ?pD=>Nm (vs=[?g0,v,?m3]) (H l=?l3) (?x6 us (ws.map tI)) (TI K H v w) (?u) (ws.length<=100) (∀(p:Addr) (us':?g) (H':Hp),?aZ->?a2->H' p=?c (?h us')->?q K H' us' ((?nK).map tI)->?dO)
def CH:Sp:=fun vs H Q _=>Qm fun ?tF ?t8 (kind most:Int)=>Kh (vs=[?f kind,?b5,?f most]) (?fM) (ns.length<=63) (0<=most) (most<=100) (∀(p:Addr) (us:?g) (H':Hp) (xs:Ar),?aZ->?a2->?tG->?q K H' us ?bN->C9 xs->?sH<=most->?dO)
universe e9
def Jv(d:L2.D):Bool:=iB ?a4 d&&!iB ?cB d
def belowD(d:L2.D)(b:Int):Bool:=match d with
 | ?cV=>?x (0<=i)&&?x (i<b)
 | _=>false
end
mutual
#check(4,[?a,?b,some,.int,.ref,wpAny,(by omega),List,X.env,.tup,s.heap.objs.size,V.int,Nat->Int,(?T),if_neg,.nil,?c o,if_pos,(i+1),.lst,?e a,.type,decide,.Call,s.heap,(-1),.none,IsPair,∀(K:W.Frag),a,.cons,kv.1,H p=none,∀{P:Program}{w:World},a,∀(I:?oL),a,∀{K:W.Frag},a,RelV,?h V,I.hok,(?bD),.inl,.(by simpa using hb),?e b,?h Expr,(?wS),p.1=k,.(by simp),∀(ms:?cM),a,∀{kvs:?W},a,?h (?g2),(?f6),.Attribute,?e ?k,(?bC),eval,?d i,apos,?h Int,.(by intro z;cases z),Pv i σ H,.Name,Nw.2,starEach,IsZip,.(by intro X hP hw hK hc i Ac s σ H E I hf st hg;subst hP hw hK),∀{A:Around}{E:?qU},a,∀{f:?c0},a,∀{a:Addr},a,(?u),(?kT),qa8 _,kvs.map,Pv ?s,s.heap.IsTuple,xs[i]?=?b7,.inr,.seq,?AE a xs,Hp->Prop,w1.extBut,?h Addr,∀{X:Cx}{Ac:Bg}{σ:St}{H:Hp}{s:Shared}{a:Addr},a,∀{Q:?qU},a,.(by simpa using e),∀{f:?m},a,(model prog w),?c v,Value.ref,fun b hb=>?_,fun c hc=>?_,ObjOk,Ai f n,.fields,X.mg,Ny kvs k,false,?c x,Pv i zs τ H,∀(n:Nat)(f:?m),a,.(by exact qe6 _ _),(e::es),?e p,qa1 _,I.bare,call,"range",ns.map,XS d o,X.prog,T k k,"zip",.(by ext c5),(model ?bJ X.w),St->?aP,qb7 _ rfl,w3.extBut,cpos,.(by ext O),Io n f,(n+1),dd.typeIs,IntMulOk,(f i),(?fF),D.nx σ H,Nat->?m,?h Key,"dict",∀{kvs:?cH}{vs:?A6 κ Value}(r:?d0),a,.(by by_cases e:j=k),.(by decide +kernel),[it],?dR V,(?e z),(n:Int),Rows,(?e D),[z,TI,TO,i1,i2],Array ?e5,{ s with heap:=h' },?BE ys y,fun x H' y=>?_,?A6 κ V,Same,?v "tuple",YO K a,(?B2 es),?h (?hQ),(a==sysModules)=false,hfresh,Sum.inl k,.dK [],kk c o hc e,(t k),?cI H H',"list",call_meetsIn,?b2+f n,?h Str,(mixKind P w),(?nY),KV kvs vs,∀(e:?hK),a,.(by by_cases e:?S),.(by exact True.intro),∀(ok:?qZ),a,?eF b=?q,?e t,(?h7),R.free,(fun m hm=>?_),H d=?hV,Rd H a ?X,.builtin,w2.extBut,?dR ?e5,(upd H' a ?X),R.row j a e,(t j),?A6 ?c1 V,qa7 ?_,Heap.SameBut,I.hok.fresh,[a,b],?E=k,Hu [] kvs,?BE kvs (k,v),fun _=>0,Option,qa3.mp,"enumerate",(v:V),Shared->Prop,(?iP),Ai _ n,?BC p (?j [x,y]),?c _,?c u,LT K H ?aF xs,(j+1),h'.get?,H' a=?hV,Value,.(by ext aU),Dg ms k,xs.length,x k*?kE,(?kM).get?,?AB kvs.length,[?u],(?fG ry),value,s.heap.get?,h.inc,(a:Addr),?A6 TE TE,R j ?dH,s1.heap.push,(?e it),z8 ?L e,.frz o ?X,?B8 e,?r e,qb2 e,.(by simpa using e1),Str->?dE,h'.IsTupleIter,.(by have z:b=it:=?bS),.(by rcases hc' with rfl | hc'),∀(kvs:?cH)(k:κ),a,∀{prog:Program}{w:World},a,∀(R:?AH H1 as),a,?BE ts t,{ s with heap:=h',toks:=tk },Nat->?jN,(f:?c0),?h ?e5,Ne.symm,(?e i2),.dK kvs,?AE a us,Itd hi n,Vc kvs k,I1.kept,(w<=1000),.(by ext iI),(?e6),h1.symm.trans e,?c9-1,kV_is,XR K a b,?o e,(∀σ' H',N σ' H'->∃m',m'<m/\W ?s m' σ' H'),I.list,(h<=1000),(?b6,?B8 b),?h (?t5),.ellipsis,(dT h w f),Dy K H b ys,its.toArray,2 ^ 61,(x:V),Bk.step,(by kernel_rfl),?zU ?k [x,y],backTo,sumN_one,.ad i j n,∀x∈ns,x.natAbs<2 ^ O8,?AE b ys,Key × V,?zL 1,o.slots,ms.map,fun σ2 H2=>tb { D with nx:=?aJ,ct:=?aJ,bk:=D.nx } σ2 H2,List.range,Ai g n,(?t0),.(by ext iF),(by ext a5),(by rw[e];ext d3),(?h0),V.ref,?B8 o,I.laid,h3.get?,(∃m,W 0 m σ H),xs.getD,?v ?bL,g x σ H' fun σ2 H2=>tb { D with nx:=N,ct:=N,bk:=D.nx } σ2 H2,w4.extBut,.bl true,(hr.mono hk),[e,f],hx c hc,prs.drop,i<=xs.length,?K->Hp->VK->Prop,.(by simp[hlt]),?J y u,(d:L2.D),b≠it,.(by ext iG),?v ?cU,qc1 ?_,fun p=>?o1,.bool true,Z2 _ _ hc',2 ^ m,?d n,w5.extBut,VI n f,n<=1000,field,i<=kvs.length,s.heap.push ?uY,T' k k,up c _ q ?gB,(?e i1),(∀c o,c≠z->c≠b->c≠i1->c≠i2->?rV),(?v0),(i:Int),hf c hc,(?bS),H a=?c ?X,?c ob,W i m σ H,(?fH),?BC a (?eN),(i:Nat),Int × Int,H D=none,H b=?e0,?B3 1,Dy K H a xs,?c (?eN),(kvs.any ?lZ),∀(D:?x1 z a b i1 i2 t1 t2)(gz:?A3 ?y ?A)(ga:?B ?y a ?hE ?f5)(gb:?B ?y b u v),a,∀(g1:?lY i1 t1 n) (g2:?lY i2 t2 m) (e1:?aK t1 xs) (e2:?aK t2 ys),a,.(by simp only[qb6,qe7,or_false]at hc;rcases hc with rfl | rfl | rfl | rfl | rfl),.(by simp only[qb6,qe7,or_false,not_or]at hc;obtain⟨n1,n2,n3,n4,n5⟩:=hc),∀{kvs:?dI}{xs:?kV}(r:?tL),a,.(by have hfresh:H ?k=none:=?dL ?M),.(by exact⟨f.2.2.2.1,f.2.1,f.2.2.2.2.1,f.2.2.2.2.2⟩),∀{g:TG}{tc:TT}{te:TE}{D:Addr}{Q:?aP}{τ:St}{H:Hp},a,∀{z a b i1 i2 t1 t2:Addr}{n m:Nat}{xs ys:?cD},a,.(by cases (show Data.seq _ _=Data.cell v from q)),.(by obtain⟨hz,hTI,⟨u0,v0,hTO⟩,h1,h2⟩:=st),.(by obtain⟨z,hd,vs,rel,dd⟩:=dU ?L e),∀{K:W.Frag}{es:?Q}{x1:Nat}{tpos:Pos},a,∀{w r:Nat}{R:Mat}{t:?pW}(h:C8 w r R t),a,.(by obtain⟨⟨old,h1⟩,h2⟩:=st),∀(R:It->?aP)(vs:?K)(H1:Hp),a,.(by rcases ?mA hb with rfl | hb),.(by exact(show False from r).elim),.(by rw[Al (Sj b _ z)];exact z),.(by rw[Al (Sj c _ e)];exact e),.(by rw[Al (Sj c _ q)];exact q),.(by rw[←rel.length];exact z),.(by intro Ac s σ H Q I h),∀{D:Addr}{as:?aR},a,∀(h:Heap)(a b:Addr),a,∀(f:?c0),a,∀{X:Cx}{pos:Pos},a,Mw kvs k v,.(by simp;omega),.(by ext iH),?lU vs k,Mh n w k T,Mi K fd ps []/\By P w K mg base En k f fd ps sp,fun h' FZ hs=>h _ ?_,(xs:Ar),.(by simp at e),?o ?g,hk c o n1 n3 n4 n5 e,?h L2.D,?eF c=?q,Hu kvs more,#[key,p.2],(0:Int),ib.toArray,I.turned,k5.objs.size,fun z=>e z.symm,us.length=h,Builtin.SmallTypes.nextOf,attributeBase,{ cls:=?v "dict_items",data:=?b3 #[?e d] },R i ?cS,tupleKind,⟨_,rfl⟩,((0:Nat):Int),A.handled=none,.(by simp<;>omega),fun j hj=>?_,Q (?gN) H',kk b o (aV b hb).1 (aV b hb).2 z,Data.fields _=Data.cell v,hd σ H pp,Nat->?bO,"StopIteration",hf b hb,Pv i ys τ H,?AE a ?d7,?J (kV k) u,⟨h1,h2⟩,fun c xs q=>?hD,ia.toArray,?d 0 0,H c=?q,qt9 ?_,s.free,?h (?dR Expr),pa.isList,H b=?c (?j (k.map kV)),?BB ?fA hk,(?jP).1,fun i=>?oY,(K w.params).In,(zt4 ?y a b).objs.size,Builtin.Int.intBits,?B3 4,h.zero,tPairs,d.name,[e,it],R k ?cS,?x (?a7 ?bG q) [a] [] pos2,⟨_,rG,rfl,rfl,_,rfl⟩,b≠s.heap.objs.size,.bool ?b6,pb.isList,as.map ?gE,p.getD,uN ?y a b,In w n R v,(?e j),Dg ns j,(f,first),Str.ofString "__next__",wpAny_rule,mixKind ?bJ X.w,k b o hc e,?h (?c1 × Addr × Value),xs.length<=i,I1.list,(?b6,?B8 a),C8 w r T' t,backToKw,standAt apos.atName,"dict.update.loop",?zU p [kV k,v],values,?gH ?k,(?fX pos (?lB)).any,?h α,?zL 3,stored,Kp H H1,?AL es,Rd H a (.dT kvs),fun b o e=>?A2 e,?zL 2,(xs.length:Int),Z2 _ _ z,?AP T',up b _ q ?gB,?zL 4,(?dG).2.2,?AL ?bB,hf it ?n,h3.IsListIter,as.length=h,I.list_inj,"keys",Dh ?rJ,Al (qc5 lb),⟨y,H2,I2,ry,q2⟩,valueAt,I2.thaw e2 hb,Nat.log2_lt,qa0 hj,s.heap.IsTupleIter,fun kv=>?w (?dN),s₁.heap,s.TypeIs,kk b ob hb z,?d (hi-i),Addr->Prop,(h w:Nat),rawInt,[a,b,c],hl i σ H hi pp,X.base,qb6.mp,sumN_all0,(?b6,?eO),h.IsListIter,wpAny_callSpecial?_slot,holding [ov] (getMethod ov m pl),kvs.length,Paired,.(by have he:?vH:=?r0),.(by obtain⟨σ',H',I2,e2,q⟩:=hq;exact⟨σ',_,?lV,q⟩),∀{g:TG}{tb:TS}{D:Ends}{σ:St}{H:Hp}(Pv:?jN)(h0:?sA),a,.(by obtain⟨f0,f1,f2,f3,f4,f5⟩:=?lM),.(by cases (show ?jL from q)),∀(Pv:?uS)(h0:?sP),a,.(by have e':¬q.1=k:=?wE),∀(mg:?eS)(base:Heap)(C:Addr),a,.(by obtain⟨f,fd,h1,h2,h3⟩:=h.ex),.(by rintro i m σ H ⟨rfl,hi,pp⟩),∀(hd:?AY n),a,.(by show(2:Nat)<=sizeLine;decide),∀{Q:?dE->?dV},a,.(by exact kk _ _ (?h3) q),.(by rw[(hf c hm).1]at e;cases e),∀(ps:?cX)(k:Nat)(sp:Sp),a,∀{y:V}{u:Value}(ry:?gV),a,.(by obtain⟨ok,ov,hit⟩:=st),∀{vs:?fN},a,∀(xs:?K)(H:Hp)(Q:VK),a,∀{σ:St}{H:Hp}{s:Shared},a,∀(ns:?cM),a,∀(P:Program)(w:World),a,∀(e:?dB),a,∀(hk:j<=k:=by decide),a,∀(hi:?uC),a,∀(hn:?jG),a,∀(hK:X.K=K:=by rfl),a,∀(ry:?jS),a,I.base.frzs,Io ?bU f,l.row.toRowW,(?b5).isSome,(?a8 b n1).trans,i=xs.length,I1.hok.fresh,(qk1 lz),PA X [a] ta,hx k ?g,fun _ _ _ _ _ st h=>qu2 st.1 h,?A2 (?bP),ql5 ?_ (by size_fits),∃t,u=Value.int i t,PySem.F.slot_dict_items,key r t FQ hst hz,Sq H Z a,(?B6 xs.length),WData.weight,?AO c,?L b _ e,∀ob u,X.H₀ a≠?c (.frz ob u),items[i]?,I.ok.hd hc,Ny (p::r) k,D.TOi2.symm,?w (?S),{ s with heap:=h1 },In w r R v,List.replicate,i=kvs.length,c3 r t FQ hst hz,h'.DictOf,(?m6 ?j6),D.TOi1.symm,⟨?mG,?T,?aH,h0⟩,hl i zs τ H hi pp,(y xs q),Obj.data_mapFields,qc5 (?eQ),(Sq H Z),fun k hk=>h k ?g,PE X ?eE tv,?A9 q,c ∉ ?cC,PE X o td,?zA H s,b≠e/\?gX,Q ?cB H',(?B6 n),fun y H4=>H4 D=?A9 zs/\zs.length<sizeLine/\Pv ?s ?t2 τ2 (upd H4 D (?t ?t2)),acc'.toList,A.units+1<cLine,{ s with heap:=h',toks:=t' },Gl X ?bG,?B h' ?k x y,(?sN,?l p.2),?Y o f pos',(zt1 ?y a).objs.size,dL w ?bX,?aK b ys,s1.heap.IsTuple,(mixKind P w).is,∀c o,?oJ->?j0->?gH c=?q,⟨kvs,q,?bD⟩,hst.zero,h.objs.size,c1.2.2.2.1,atKey (q::qs) k,mg ?kC=?c ?wJ,?z8 ?aW (pyNext ?c8),fun k hk hne=>?_,?B h' b x y,⟨xs,q,?bD⟩,X.calm=true,h.IsTupleIter,.(by simp at hl),List.range',hk1 _ _ hoD,⟨t,rfl⟩,{ cls:=?v "tuple_iterator",data:=?b3 #[?u,?jW] },⟨hz,hTI,⟨_,_,hTO⟩,hi1,hi2⟩,k3 c hcw,IsD H1 a,?h (?uQ),zt3 h a b,(?h7).length,(dL n f),Ai (fun i=>f i j) n,pure ?b6,?cI H H1,wpAny_Call_method,?qH ?bL=?c (?gK),Nat->Nat,ON Q vs H1,s1.heap.objs.size<=c,g.typeIs,?fY hr ?pA,?d5->?e3 b=?q,PA X ?bB t,iV xs H Q,?cI H1 H2,(?dG).2.1,⟨q,hq⟩,(∃o,?e3 e=?q/\o.cls=?v ?jO)->E (?e e) ?cE,?eT i1 t1 ?bU,TI K H v p,fun h' hz' WU eN h2' htup hsz hk=>?_,(?e ?j6),?r (?fE),∀k,k<j->v ?cS=0,?zL 5,Al (?oE),?lU (q::qs) k,bootBuiltins,⟨kvs,kvs[i].1,kvs[i].2,q,?gU⟩,h _ _ (I.tok _) ?_,?w (q.1≠k)=true,{ s1 with heap:=?eK ?jB },?zA H' s',fun c ys q=>?iQ,zt2 h a b,fun b u q=>?_,PySem.F.slot_dict_delitem,fun j hj=>O9m,⟨_,hen⟩,lb<s1.heap.objs.size,?e5->?dV,⟨_,?bP,rfl,rfl⟩,I.tuple_inj,IsDPut D σ v x y H3,.(by simp[atKey,qo0,e']),Qk P w H h,let ⟨q,_,_,hq,_⟩:=FZ;?q6,?A6 V V->?aP,(?dO).length<=sizeLine,(?bH ?l),?D ?_ ih,l.most=?c n,DecidableEq,?AE b (VI w ?bX),Paired.snoc,k5.IsTupleIter,(zt2 ?y a b).objs.size,kvs.length<sizeLine,a*u c+b*v c,h'.objs.size=?g3,items[i],(?aY t==Value.none)=true,fun j c hj=>O9m,(vs=?eC),wpAny_typeOf,ds.length,?AO b,pos.line,oV R vs H1,I.turnedN,?z6 c,Io n ?dQ,.(by ext yH),callWith,?h Keyword,F.entry_zip_next,xs[n]?=none,?j0->?e3 c=?q,hst.lead hx k kr v0,entryFor,call_meets,H a=none,.(by simp at h),(apos.endLine==cpos.line)=true,.(fun b u q n=>by rw[Al (ne b u q n)];exact q),(vs=?tI),?bY+?jF*?z,(?b6,?B8 c),(?tJ).isSome,hp j O9m,eN.at fun o e=>(?a8 i1 D.i1z).trans e,hd zs τ H pp,Pv 0 σ H,hnew.typeIs,OU K R vs H1,?A2 (?nM),(?dC ?uB),w8.extBut,(?B6 kvs.length),.(show n+1+j=n+?e2 by omega),fun c o e hm=>?t3,(?g7 n).map,Ap z ?cO,{ s with heap:=?hB },fun j a e=>?_,(Sum.inl p.1:Key),fun _ _ _=>False,Pv 0 [] τ H,D.i1z.symm,wpAny_setField,wpAny_updateSeq_pair,(?iO).length,⟨o,ho,r⟩,PySem.F.entry_dict_pop,uJ K R vs H1,?zA H s',swapsWith,?eF b=?hL,Mw kvs p.1 p.2,FP ?L eb,(zs++[y]),.(by ext mW),kvs++[p],Key × Value,(vs=[x]),NT ?L e,oS K R vs H1,?zA (?BC a (.dK (?f9))) s',?aL/\?cF,?aO/\?g1,fun h' hz hTI hTO hi1 hi2 hsz hk=>?_,(qc1 ?gD),.(fun v q=>by ext i6),∃xs,?tL/\h.DictOfH (?jD ?cY) a xs,"dict_itemiterator",PySem.F.args_dict_pop_3 _ _ _,[?u,?P],atKey xs k,?gJ i.toNat [],KT H kvs xs,EJ xs H Q,wpAny_attempt,w7.extBut,fun h' hk=>(?AM ?cC (fun c o hc e=>?_)),[?k9,?B3 2,?B3 3,s1.heap.objs.size,?hT],(y kvs q),?b5=none,fun τ2 H2=>tc τ2 H2 fun b H3=>if b=true then te τ2 H3 ?oP else Pv ?s zs τ2 H3,kk _ _ (Z2 _ _ e) q,fun hr=>?_,?BE prs p,(?zK t).objs.size,d.params.defaults=[],?u::u::more,PE X o ta,IsRangeIter,⟨xs,xs[i],q,?gU⟩,ItDGet2 ty tx σ Q x H1,fun h3 hen Nw=>?_,Heap.IsTuple,(Hl ms k),?eT i2 t2 (m+1),h3.IsTupleIter,r.repl k ry,.(by simp[e]),"dict.pop",i.natAbs<?h4,(zt3 ?y a b).objs.size,?nT (?d x),.(fun b u q n z=>by rw[z,e]at q;exact n (qd3 q).symm),qj2 O9m O9m,if j=i then 1 else 0,Heap->Prop,(ys++[y]),s1.toks+1,?b4 ?bG=none,?aA h z TI TO ?A,I1.tuple,wpAny_letGo,?A3 k1 ?fO,KT × Value,h1.DictOf,Nat->?K->?bO,[?u,u,r],?A8 r,La kvs [],?cI ?oF (Sq H' Z),⟨n,?T,?aH,h0⟩,{ cls:=?v ?c2,data:=.dict #[] },Shared.heap,?A5 v ?fP,?z8 ?aW (?j9 ?kO),X.A.units+1<cLine,⟨xs,ys,qa,qb,O9m⟩,la<s1.heap.objs.size,F6 k X.A,?aK a xs,mainGlobals,BS ?rJ&&ds.all (fun e=>De xs e (?lR-1))&&(?w (?lR<2) || Lj xs (ds.map sQ)),fun kv=>(kV ?E,kv.2),?L a _ e,ns.length<=n,?eB/\?cN/\∃vs,?d0/\h.DictOf ?cY a vs,vs.any ?lZ,?d i s.toks,?zM (?lL),?p1 k u=true,∃q,?e3 a=?c q,ob.slots,hk1 _ _ ho1,?zU ?k [?a2,x],?fX ?bR (?AL ?gP),⟨rfl,rfl⟩,IV xs H Q,Unit->?dV,fun i hi=>?_,fun b ob z=>?A2 z,.(by have:=r.length;simpa using this),⟨xs,ys,xs[i],ys[i],qa,qb,?jH,?jH⟩,?w (p.1≠k)=true,fun z=>?_,Sem Bool,ts.length=kvs.length,eK x vs H Q,Paired.length,I1.fpOk lc (?nH lc),?dK z h' h3,∃t,u=Value.str x t,?B h TI ?hE ?f5,(x,y)::ps,i<xs.length,binaryOp,Heap.DictOf.new,o.data=.dict es ep,D.TOz.symm,.Subscript o i pos',?zU ?k [kV k,v],(keyPart u).isSome=true,⟨hz3,wV,⟨_,_,wU⟩,hi1,hi2⟩,(?jD ?cY).is,fun z=>e (h1.trans z),bs.map ?gE,i<kvs.length,?A3 h' (?m6 ?k),H a≠none,(?e fa),?c (?P),s.toks+1,PySem.F.entry_dict_get,?A2 (?sD),Builtin.Range.rangeSize,.(by simp[valueAt,qo0,e']),upd H a ?X b,IW R x H1,.(by decide),.(fun v q=>by ext mM),s₁.heap.get?,kvs++more,.(by simp[Ny,qo0,e]),.(by rw[Al (Sj c' _ q)];exact q),⟨?e8,?T,?aH,h0⟩,IsItemIter,(?eK ?jB).objs.size,ZipApart,h2'.at fun o e=>(?a8 i2 D.i2z).trans e,p.isList,.(by obtain⟨o,q1,q2,q3⟩:=id g;obtain⟨p,p1,_,m,p2⟩:=gt;unfold Builtin.SmallTypes.nextOf;refine qa7 (?mE (name:=?kR) ?pZ qn5 (qk3 qn5 ?pZ F.entry_tuple_iterator_next ?_ (F.args_tuple_iterator_next_1 _)));show ?z2 (?h9 ?kO 0>>=_) s;refine qa7 (qh0 q1 q3 (x:=?d6) rfl ?_);show ?z2 (if ?rF then _ else _) s;rw[?o (show ¬(?rF) from qd6)];show ?z2 (?h9 ?kO 1>>=_) s;refine qa7 (qh0 q1 q3 (x:=?d n 0) rfl ?_);show ?z2 (seqItems? (?d6)>>=_) s;refine qa7 (qm1 p1 p2 ?_)),.(by refine ?zC ?kI ?_;show ?z2 (?h9 ?c8 3>>=_) _;refine ?zC ?u ?_;refine ?A4 ga;show ?z2 (Builtin.SmallTypes.ownedTupleIsFree ?c8>>=_) _;refine ?dJ;unfold Builtin.SmallTypes.ownedTupleIsFree;refine ?zC ?A ?gD;simp only[if_true];refine ?AC ?kS;refine ?zC ?P ?_;refine qa7 (qh9 gz ?n fun k1 wX w1=>?_)),.(by have wV:?B h3 TI ?hE ?f5:=(?a8 TI D.TIz).trans (hk _ _ D.TIz D.TITO D.TIi1 D.TIi2 hTI);have wU:?B h3 TO u v:=(?a8 TO D.TOz).trans WU;have Z2:∀c o,?jX->?oJ:=?sI),.(by refine ?zE ?vS ?oO;obtain⟨p,u,v,hp,rfl,rfl,y1,y2⟩:=y;exact hs i u v zs τ _ p (y1 xs qa) (y2 ys qb) pp hp),∀(hs:∀i x y zs τ H p,?aL->?cF->?b8->?F->g ?a0 τ (?dY) ?tT),a,∀{X:Cx}{K:W.Frag}{es:?Q}{x1:Nat}{tpos:Pos}{a b:Expr}{ta:TA}{p pos:Pos}(hg:Gl X ?bL)(hm:?b4 ?bL=none)(ha:PA X ?dM ta)(hK:X.K=K:=by rfl)(hs:?AL ?dM=[?kY,?fM]:=by rfl)(hs2:?AL [b]=[?fM]:=by rfl),a,.(by obtain⟨hz,hTI,⟨u,v,hTO⟩,h1,h2⟩:=st;exact⟨k z ?n _ hz,k TI ?n _ hTI,⟨u,v,k TO ?n _ hTO⟩,h1.at fun o q=>k i1 ?n o q,h2.at fun o q=>k i2 ?n o q⟩),.(by refine ?dJ;simp only[List.zipIdx_cons,List.zipIdx_nil,List.forIn_cons,List.forIn_nil];refine qa7 (?AC wpAny_onRaise);show ?z2 (?j9 ?hE>>=_) _),.(by intro i s acc hn hi hz hd hit hb k;refine codeAny_builtin Vb ?_;rw[Around.under_plainId Ko];have hLs:s.heap.IsList l items:=let ?sU:=hL;⟨o,hb _ _ nld nli ho,r⟩),.(by refine⟨fun i m zs τ H=>m=n-i/\i<=n/\?b8,?uX,?_⟩;rintro i m zs τ H ⟨rfl,hi,pp⟩;obtain⟨qa,qb⟩:=?oB;by_cases hlt:i<n),∀{K:W.Frag}{a b:Addr}{xs ys:?K}{n:Nat}(hn:n=min ?e8 ys.length)(Pv:?uS)(h0:?sP)(hl:∀i zs τ H,i<=n->?b8->?tB),a,.(by rw[Al hcs]at e;refine(?L c w' e).stay (fun c' y' hc' q=>?_) (fun c' q=>?wX) fun c' zs q=>?wX),.(by obtain⟨x,H1,I1,rx,a,ex,d,q1⟩:=_z;subst ex;obtain rfl:u=?aY a:=rx;obtain⟨t1,t2,_⟩:=nG I1 d;refine⟨t1,t2,?_⟩;rw[m.trees]),.(by subst hcs;rw[Ab]at e;cases e;exact⟨(by ext mT),[u,v],?D ru (?D rv ?p),?kG⟩),.(by exact(?L b u q).stay (fun _ _ _ q=>q) (fun c q=>?hD) ?jU),.(by simp only[qb6,qe7,or_false]at hc;obtain⟨o1,q1,_⟩:=h1;obtain⟨o2,q2,_⟩:=h2;rcases hc with rfl | rfl | rfl | rfl | rfl),.(by have rG:?zI u v:=?A0 ltz),.(by refine⟨?bV,fun b q=>?_,hd⟩;cases q;obtain⟨ob,_,_,h1,h2,_⟩:=dd;exact⟨ob,h1,h2.2.1⟩),.(by exact S0 I ?gC hs he (Uj (qa6 (DT kvs k) z) hd (rel.drop k) FZ)),.(by obtain⟨o,es',ep,ho,r⟩:=hm;exact⟨o,es',ep,?AQ o ho,r⟩),∀{pl:?vV}(he:?u0)(c:Cls X.K C)(h:?AK Jd)(hr:?v5),a,.(by obtain⟨ho,hsys,hl,vs,es',XE,rel,hd',hsz,ex,hm⟩:=fU I hz;rw[hd]at hd';cases hd'),∀{q:Program}{loose:?cX}{XP:(?eS)->?uI}{YP:World->?uI}{d:DefRec},a,.(by refine⟨fun i m σ H=>m=n-i/\i<=n/\?a6,?uX,?_⟩),.(by exact⟨_,hTI,?tE⟩),.(by exact⟨_,hTO,?tE⟩),.(by exact⟨_,hz,?wT⟩),.(by obtain⟨hz,hTI,⟨u,v,hTO⟩,⟨o1,h1,c1,d1⟩,⟨o2,h2,c2,d2⟩⟩:=st),.(by have Sj:∀c o,?jX->c≠s.heap.objs.size:=fun c o e=>Ap e ?cO),.(by obtain⟨ia,ra,pa,_⟩:=I.tuple Vw;obtain⟨ib,rb,pb,_⟩:=I.tuple JZ),.(by obtain⟨ia,ra,pa,_⟩:=?fK Vw;obtain⟨ib,rb,pb,_⟩:=?fK JZ),∀(hst:?lL=?mC::?lB:=by rfl),a,.(by refine⟨_,rfl,wpAny_letOwnedTupleGo_zip hz' fun h3 hz3 Nw=>?_⟩),∀{x:Str}{ps:?cX}{j k:Nat}{sp:Sp}{p pos:Pos}{e:Expr}{es:?Q}{t:TA},a,.(by have hl:?AB ?sT:=by have:=Ov kvs k v;omega),.(by obtain⟨t,q⟩:=(show ?nO from ry);subst q;rfl),.(by obtain⟨t,q⟩:=(show ?w1 from ry);subst q;rfl),.(by obtain⟨u,hu,ru⟩:=ra.get hx;obtain⟨v,hv,rv⟩:=rb.get hy),.(by subst e;exact ?N ⟨?v3,?s9⟩),∀(hr:?v5)(hg:Gl X x)(hm:?b4 x=?c (?e C))(ha:?q2),a,.(by intro Ac s σ H xs us Q I r h;obtain⟨a,kvs,rfl,e,q⟩:=h),∀{CL CT:Addr}{H H':Hp}{Z:?m4}{p L R dn:Addr}{h w B:Nat},a,∀{X:Cx}{sc:Scope}{N':?cX}{cap:?h (?dR Nat)}{xc:Str},a,.(by have hn:es.size=vs.length:=by rw[hsz,rel.length]),∀(a b z TI TO i1 i2:Addr)(D:?x1 z TI TO i1 i2 a b),a,∀(hs:?AL [a]=[?kY]:=by rfl),a,.(by exact⟨o1,h1,fun v q=>by rw[d1]at q;cases q⟩),.(by exact⟨o2,h2,fun v q=>by rw[d2]at q;cases q⟩),.(by have ht:?m1 ?c8 ?bL:=(?A1 gz)),.(by rw[Al (fun z=>by rw[z,e]at n;cases n)];exact n),∀(g:?lY j t n)(gt:?aK t vs),a,.(by exact(?a8 c n1).trans (?iY)),.(by exact I2.fpOk ?M (I2.hok.fresh ?M)),.(by rw[?fI,?o (?wE)]),.(by show ?z2 (?h9 ?c8 2>>=_) _),.(by show ?z2 (pyNext ?eL>>=_) s),∀(hdb:(x==("__debug__":Str))=false:=by decide),a,∀{w n:Nat}{R:Mat}{u v:?m}(hu:In w n R u),a,∀(ho:?oK)(he:PE X e ty)(hf:PE X f tx),a,∀{n:Nat}{f g:?m}(h:∀i,i<n->f i=g i),a,∀(gx:xs[n]?=?b7) (gy:ys[m]?=?c y),a,∀{j k:Nat}{C:Addr}{ps:?cX}{sp:Sp},a,∀(ts:?aR) (kvs:?W),a,∀{p:κ × V}{r:?cH}{k:κ},a,∀(hd:?AD n),a,∀{j t:Addr}{n:Nat}{vs:?cD},a,∀{mg:?eS}{base:Heap},a,∀(e:H a=?hV),a,∀{a b:Addr}{xs ys:?K}{n:Nat},a,@((?a).go i H/\∃N:?bO,?fJ/\∀x H',(?b).yld i H x H'->?gL),@(?f _ _ ?a _ _ ?b),@(?x (?Y ?a m ?a3) ?b [] pos),@(fun σ H R=>ta σ H fun vs H1=>?a),@(qu2 hz ⟨?k9,?tQ,_,_,H1,rfl,?k3,?a la lb _ _ _ _ _ (zipApart_new a1 a2),?pK,?b0,q⟩),@(?a<s.heap.objs.size),@(⟨?k,x,y,?cO,rfl,rfl,fun zs q=>by rw[?a q Vw];exact hx,fun zs q=>by rw[?b q JZ];exact hy⟩),@(?f ?a A ?b Q E s),@(qa7 (?tN (?mE (name:=?kR) ht qv5 (qk3 qv5 ht ?rT ?a (F.args_zip_next_1 _))))),@(Bk X Ac σ ?a ?b),@(?x (?a7 ?a p) ?b [] pos),@(qa7 (qh0 gz rfl (x:=?a) rfl ?b)),@(?pU m.base m.few m.line qr8 ?a ?b (Dk (ho Ac s σ H _ I h) fun u s1 _z=>?_)),@(?aM ⟨?a,?aJ,fun ys' τ' H' p'=>?b,?cG⟩),@(fun kv=>if ?dN then ?a else kv),@(∀(i:Nat) t,?eZ->∃kv:?g2,kvs[i]?=?c kv/\H ?a=?c (?j [kV ?E,kv.2])),@(fun i H v H'=>∃p x y,?F/\v=?bC/\H'=?dY/\(∀xs,?a->?aL)/\∀ys,?b->?cF),@(?l5=?c { cls:=?cJ,data:=?aN #[?a,?b] }),@(?aM ⟨?a,?aJ,fun σ' H' p'=>?b,?cG⟩),@(?eK { cls:=?v ?bG,data:=?b3 #[?d ?bY ?a,?d ?z t',?d ?z t''] }),@(s.heap.objs.size+?a),@(?rR pos f first (?fX pos ?a) (?l0 pos (keywordEach [] ?i))),@(fun i h=>?uM/\?w2/\(∃c d,?B h TO c d)/\?a i1 a i/\?b i2 b i),@(Rp ?a g ?b te D Q τ H),@((?L b ?a z).stay (fun c y hc' q=>?_) (fun c q=>?iQ) ?qN),@(fun c o _ _ hc e _=>?a),@(?a Ac s2 σ H2 _ I2 q2),@(?a Ac s1 σ H1 _ I1 q1),@(?a (?bH WData.int)),@(upd H ?a (?j ?b)),@(?a q loose XP YP ?nD d [] (fun f vs=>PySem.call f vs)),@(fun h' eb=>⟨rfl,?j5 (t':=s.toks) ?a f0 f1 f3 f4 f5⟩),@(fun c ps e=>⟨#[],by rw[Al (Sj c _ ?a),e];simp⟩),@(fun b ps z=>⟨#[],by rw[Al (Sj b _ ?a),z];simp⟩),@(fun σ' H'=>?e4/\?a σ' ?dF),@((?a8 _ (qk1 ?a)).trans htup),@(⟨_,?a,rfl⟩),@(qa5 _ ?a),@(?aA ?a z a b ?b),@(qa7 (qm1 ?a rfl ?_)),@(Rep K H ?a ?b),@(?h (?a × ?b)),@(PE X (?x (?Y o ?a ?a3) ?gP [] ?bR) (?b td ty tx)),@(Ai (fun k=>x k*R k c) ?a),@(?c (?t ?a)),@((?a).stop i H/\?bZ),@(?a<=sizeLine),@(qa7 (?a ?_)),@(∀σ H,Pv ?a σ H->?bZ),@(SqL K H ?a ?b),@(qj8.mpr (?f4 (qc5 ?a))),@(⟨(by ext mT),[?a,u],?D ?b (?D ru ?p),?kG⟩),@(?cA H ?a D ?b w f),@(?b1 P w H h a ?a),@(?a (fun p=>if ?S then(p.1,v) else p)),@(?a ?bJ X.w X.K ?b4 ?m9 C m ps j sp),@(?a9 ?a ?i),@(⟨rfl,?rN (t':=s.toks) (fp:=?a) ?b hf⟩),@(qc1 ⟨plainId_quiet Ko ?a,?_⟩),@(?a=s.heap.objs.size),@(∀i c,r<=i->i<n->c<w->?a i c=0),@(kk _ ?a (fun q=>(hf _ q).2.1 rfl) ?b),@((?a).map ?l),@(show ?a ?b ?jV from pa),@(show ?a ?b ?j4 from pb),@(qc5 (qb2 ?a)),@(PySem.F.args_dict_get_3 _ _ ?a),@((EM ?a).map ?l),@((?gJ (?kL ?a 0).toNat []).getD ?b 0),@(∀zs τ H,Pv ?a zs τ H->Q H),@(upd ?a ?b (.dK (?dO))),@(by rw[←l];exact rel.val ?a),@(?sY ?eE (?c (?a)) ?rL ?i=?pS),@(.Tuple ?a x1 tpos),@(s1.heap.objs.size+?a),@(?a6->?F->g ?a0 σ ?a ?g6),@(Builtin.«zip.__next__» ⟨[?e ?a],[]⟩),@(⟨?a-?s,O9m,rfl,hlt,p'⟩),@(qm4 (Dk (?zR hf) fun fv s3 ?a=>?jY)),@(?a1 ?a ?i),@(PE X (?z3 o ?a) (GX C m sp [] E0 ta ?b)),@(PI X ?cL (?zB ?bL ?dM) (?a K ta)),@(?a (t':=s1.toks) ?b),@(upd H ?a ?b),@(⟨?Z,?fW,?_,rfl,(?z7 ?a ?b),?wC,?b0⟩),@(?a[i]?=?c ?b),@(?a Ac s σ H _ I h),@(fun i H=>∃xs ys x y,?a/\?b/\?tA)])
def Dh(n:Nat):Int:=if ?j3 > ?fF then 0 else ?fF
def De(xs:Ar)(d:L2.D)(l:Int):Bool:=match d with
 | ?a2=>?w (0<=i)&&?w (i<?lF)&&?w (Dh (?tK).length=l)
 | _=>false
def S9(xs:Ar)(p:?a4)(j i:Nat):Bool:=?w (?AX j i=?AX i (j-1))
def Lj(xs:Ar)(p:?a4):Bool:=(?g7 p.length).all fun j=>(?g7 j).all fun i=>S9 xs p j i
def sQ:L2.D->Int
 | ?a2=>i
 | _=>0
def BS(n:Nat):Bool:=n==0 || n==2 || n==3 || n==4
def Yi(xs:Ar)(d:L2.D):Bool:=match d with
 | ?j ds=>?v8
 | _=>false
theorem Po(xs:Ar)(ds:?iZ):Yi xs (?j ds)=(?v8):=rfl
theorem RV{n:Nat}(h:BS n=true):n<=4/\n≠1:=by
 unfold BS at h;simp only[qq1,qv6]at h;omega
section
variable[?C]
def Ih:Sp:=fun vs H Q _=>Jp fun ?fT ?gW=>Ef ?t6 (?A5 x d) (Q (.bl (Jv d)) H)
noncomputable abbrev Ws:Sp:=Ih K
def Go:Sp:=fun vs H Q _=>Rs fun ?fT ?gW (b:Int)=>Ef (vs=[x,?d b]) (?A5 x d) (Q (.bl (belowD d b)) H)
def Kl:Sp:=fun vs H Q _=>Jp fun ?fT (ds:?iZ)=>Ef ?t6 (Ah4 K H x ds) (Q (?d (?lR)) H)
def Fd:Sp:=fun vs H Q _=>bZ fun ?eH ?fT ?gW (l:Int) ?iV=>B6 (vs=[?u,x,?d l]) (?e1) (?A5 x d) (Q (.bl (De xs d l)) H)
def N8:Sp:=fun vs H Q _=>Qm fun ?eH ?dU ?iV (p:?a4)=>Kh (vs=[?u,v]) (?e1) (?q9) (p.length<=4) ((∀f∈p,0<=f/\f<?lF/\(?gJ f.toNat []).length+1=p.length)) (Q (.bl (Lj xs p)) H)
def HC:Sp:=fun vs H Q _=>Qm fun ?eH (th:V) ?gW ?iV=>B6 (vs=[?u,th]) (?e1) (?A5 th d) (∀H',?cT->Q (.bl (Yi xs d)) H')
noncomputable abbrev Ry:Sp:=EV K
noncomputable abbrev Ky:Sp:=cI K
noncomputable abbrev Rx:Sp:=eV K
noncomputable abbrev Np:Sp:=Zj K
noncomputable abbrev Qa:Sp:=CH K
universe e9
section
variable[?I]{H:Hp}
theorem eO{d:L2.D}(h:Jv d=true):∃i,d=?a2:=by
 cases d<;>simp[Jv,iB]at h;exact ?jE
theorem LT.get[?aE]{xs:Ar}{i:Int}(h:?e1)(h0:0<=i)(h1:i<?lF):∃us v,?f7/\e9 us i=?aX/\TI K H v (?tK):=by
 obtain⟨a',us,e,hq,r⟩:=h;cases e;obtain⟨j,rfl⟩:=qs3 h0;have hj:j<xs.length:=O9m
 have e:(xs.map tI)[j]?=?c (tI xs[j]):=by rw[qa9,?lX];rfl
 obtain⟨v,hv,tv⟩:=r.get e;refine⟨us,v,hq,Bl hv,?_⟩;rw[qf5,qa4,?lX];exact tv
theorem LT.len[?aE]{xs:Ar}(h:?e1):∃us,?f7/\us.length=xs.length:=by
 obtain⟨a',us,e,hq,r⟩:=h;cases e;exact⟨us,hq,?vR⟩
theorem TI.get{v:V}{p:?a4}{i:Int}(h:?q9)(h0:0<=i)(h1:i<(p.length:Int)):∃a,v=?u/\Dy K H a (p.map ?l)/\e9 (p.map ?l) i=?c (?d (?kL i.toNat 0)):=by
 obtain⟨a,e,hq⟩:=h.sq;refine⟨a,e,hq,?_⟩;obtain⟨j,rfl⟩:=qs3 h0;have hj:j<p.length:=O9m
 refine Bl ?_;rw[qa9,?lX];simp[hj]
theorem AX(n:Nat):Dh n=((n-1:Nat):Int):=by unfold Dh;split<;>omega
theorem EF{xs:Ar}{l:Int}:∀{ds:?iZ},ds.all (fun e=>De xs e l)=true->ds=Fg (ds.map sQ)
 | [],_=>rfl
 | d::ds,h=>by
   simp only[List.all_cons,qc3]at h;cases d with
   | int i =>
     show L2.D.int i::ds=L2.D.int i::Fg (ds.map sQ);rw[←EF h.2]
   | _=>simp[De]at h
universe e9
universe Hb
namespace L2
open PySem PySem.Spec PyProof.Rows
section
variable[?yA]{Ac:Bg}[?n2]{C c:Addr}{fp:?aR}
universe e9
section
variable[?yA]{tg elt iter:Expr}{ifs:?Q}{pos:Pos}{g:TG}{tc:TT}{te:TE}
universe e9
section
variable{fs:?aR}{H H':Hp}{h B h' h2:Heap}
universe e9
noncomputable abbrev XJ:=?e5->OAddr->?bO
section
variable{X:Cx}{Ac:Bg}{σ:St}{H H':Hp}{s s':Shared}{e:Addr}{cls a0:Value}{dx:OAddr}
universe e9
section
variable[?G][?I][?yY]{N:?cX}{qual:Str}{scope:Scope}{f:Addr}{cd:Value}{A:Around}{outer:?h Env}{s:Shared}{H:Hp}{E:XK}
universe e9
section
variable{X:Cx}{J:XJ}[?y1]
universe e9
universe L2
namespace L2
open PySem PySem.Spec PyProof.Rows PySem.W
section
variable{X:Cx}{Ac pn:Bg}[?n2]{J:XJ}
universe e9
section
variable{X:Cx}{th:Ends->XJ}
universe e9
section
variable[?eX][?aC]{h:Heap}{g:Array GenState}{d:Drawn}{t:Nat}{os:OsState}{a C:Addr}{o:Obj}{K:Frag}
universe e9
section
variable{X:Cx}{K:Frag}
universe e9
universe L2
namespace L2
open PySem PySem.Spec PyProof.Rows
def YO[?C](a:Addr):It :=
 ⟨fun i H=>∃xs x,?aO/\?aL,fun i H x H'=>∃p v,?F/\x=?bC/\H'=?zU p [?a2,v]/\∀xs,?aO->xs[i]?=?aX,fun i H=>∃xs,?aO/\?kW⟩
theorem jB[?G][?i9](a e it:Addr)(hne:e≠it):V2 P w K ?cL (?cK) ?kD e (fun i h=>(∃old,IsEnum h e it ?hH old)/\?mD it a i) where
 mem:=?T
 obj:=fun i h st b hb=>by
  obtain⟨⟨old,h1⟩,o,h2,c,d⟩:=st;ext iD
  . exact⟨_,h1,fun v z=>by cases (show ?jL from z)⟩
  . ext eU
    subst z;exact⟨o,h2,fun v z=>by rw[d]at z;cases z⟩
 keep:=fun i h h' st k=>by
  ext iB;exact⟨⟨old,k e ?n _ h1⟩,h2.at fun o z=>k it ?n o z⟩
 item:=by
  ext aB;ext iB;obtain⟨xs,x,hq,hx⟩:=hg;obtain⟨its,rv,p,hz⟩:=?fK hq;obtain⟨u,hu,ru⟩:=rv.get hx;have fe:=hf e ?n;have fi:=?lM;have lte:?z6 e:=qb2 h1;ext i2;refine wpAny_pyNext_enum_item h1 h2 ?x3 (x:=u) (by simpa using hu) hne fun h' hout WO htup hsz hk=>?_;refine⟨_,rfl,wpAny_letOwnedTupleGo_enum hout ?u4⟩
  replace Nw:?dK e h' h3:=Nw
  have kk:∀b o,b≠e->?gX->?d5->?gH b=?q:=fun b o n1 n2 z=>?nF (hk b o n1 n2 z);have rG:?zI ?vE u:=?A0 lte;have wQ:?lN it a ?s:=WO.at fun o z=>(?a8 it hne.symm).trans z;have aV:∀b,b ∉ ?kD->?oM:=fun b hb=>?bS
  have Z2:∀b v,H b=?aX->?oM:=fun b v z=>⟨Ap z fe.1,Ap z fi.1⟩
  have Sj:∀b v,H b=?aX->?kH:=fun b v z=>?sK;refine⟨?Z,?vK,?_,rfl,⟨?k,x,?cO,rfl,rfl,fun ys hy=>by rw[?lP hy hq];exact hx⟩,⟨?qS,wQ⟩,?aZ⟩
  . refine ?fU (s:=s) (h':=h3) (t':=?wL) (H':=?vK) I (g':=s.gens) (d':=s.drawn) (ch:=?kD) (?aZ) (fun b o _ _ hb z _=>?jK) (fun b o _ _ hb z _=>⟨?g4,?jK⟩) (fun b o hb z n=>?_) (fun b o hb z=>⟨o,?jK⟩)
     (fun b ys z=>?gA) (fun b o v z=>?gA) (?zY z) ?d9 (fun b v z=>?_) ?bE
    . ext iD
      . exact⟨fe.2.2.2.1,fe.2.1,fe.2.2.2.2.1,fe.2.2.2.2.2⟩
      . ext eU
        subst z;exact⟨fi.2.2.2.1,fi.2.1,fi.2.2.2.2.1,fi.2.2.2.2.2⟩
    . rw[Al (?AU z)];exact n
    . obtain⟨o,es',ep,ho,r⟩:=hm;exact⟨o,es',ep,kk _ o fe.2.1.symm fi.2.1.symm ho,r⟩
    . by_cases hb:?rK
      . subst hb;rw[Ab]at z;cases z;exact(?AG ?vE ?jE)
      . rw[Al hb]at z;refine ?zP v
        ext eV
        . exact kk _ _ (?lG).1 (?lG).2 q
        . exact kk _ _ (?h3).1 (?h3).2 q
  . have lb:?z6 b:=by
     ext iD
     . exact lte
     . ext eU
       subst z;obtain⟨o,z,_⟩:=h2;exact qb2 z
    rw[?lS];exact ?k4
 done:=by
  ext aB;ext iB;obtain⟨xs,hq,hx⟩:=hg;obtain⟨its,rv,p,hz⟩:=?fK hq;ext mL;have hl:=rv.length;exact wpAny_pyNext_enum_end ?cZ h1 h2 ?x3 ?dW (?zW (fun b o hb z=>eb b o hb z))
 self:=fun _ _ _ _ _ st h=>by
  ext iB;exact qt0 h1 h
inductive OU[?C][?iC]:Prop
 | mk:∀a,?rH->((∃xs,SqL K H1 a xs))->(R (?cK) H1)->?sC
def Ac6[?C](ta:TA):TI:=?z4 ?sC
theorem V1:?qH ?dT=?c (?v ?dT):=?bM
theorem Sc{X:Cx}[?i9]{a:Expr}{ta:TA}{p pos:Pos}(hg:Gl X ?dT)(hm:?b4 ?dT=none)(ha:?nJ)[?n9][?yD]:PI X ?cL (?zB ?dT [a]) (Ac6 K ta):=by
 subst hK;intro Ac s σ H R I h;refine Call_ (Iy I hg hm V1 (qf1 (Dk (ha pos Ac s σ H _ I h) fun us s1 _z=>?_) hs rfl));obtain⟨vs,H1,I1,r1,q1⟩:=_z;obtain⟨l,e,⟨xs,hq⟩,q⟩:=q1;subst e;cases r1 with
 | cons r rr =>
   cases rr;cases r;obtain⟨its,rv,pl,hz⟩:=?kX hq;refine call_enumerate_list pl.isList fun h' hen hit hsz hk=>?_;refine qt0 hen ⟨?hT,[?hT,s1.heap.objs.size],_,_,H1,rfl,?k3,jB l _ _ (qs5 _),⟨?qS,hit⟩,?aZ,q⟩
   have lb:s1.heap.objs.size<=b:=by
    ext iD
    . exact qn0 _
    . have z:b=s1.heap.objs.size:=?bS
      rw[z];exact ?bD
   exact I1.fpOk lb (?nH lb)
section
variable[?i4]
theorem AA[?I][?aE]{xs:?K}[?mN](hl:∀i ys τ H,?gS->?jQ->?aO)
 (hs:∀i x ys τ H p,?aL->?jQ->?F->g ?a0 τ (?zU p [?a2,x]) fun τ2 H2=>tc τ2 H2 fun b H3=>if b=true then te τ2 H3 fun y H4=>H4 D=?A9 ys/\ys.length<sizeLine/\Pv ?s ?uJ τ2 (upd H4 D (?t ?uJ)) else Pv ?s ys τ2 H3)
 (hd:∀ys τ H,Pv ?e8 ys τ H->Q H):?zO (?cK) tc:=by
 refine⟨fun i m ys τ H=>m=xs.length-i/\?gS/\?jQ,?wY,?_⟩;rintro i m ys τ H ⟨rfl,hi,pp⟩;have q:=hl i ys τ H hi pp;by_cases hlt:?w4
 . refine ?zE ?u2 ?nS;obtain⟨p,v,hp,rfl,rfl,y⟩:=y;exact hs i v ys τ _ p ?oC pp hp
 . have e:?nG:=O9m
   subst e;exact ?N ⟨?pC,hd ys τ H pp⟩
theorem Yh[?I][?aE]{xs:?K}[?mK](hl:∀i σ H,?gS->?a6->?aO)
 (hs:∀i x σ H p,?aL->?B4 (?zU p [?a2,x])) (hd:?AD ?e8) :
 ∃W:?f1,?gI/\∀i m σ H,?hM →
   (?AA ?cK)\/(?z1 ?cK ?cK):=by
 refine⟨fun i m σ H=>m=xs.length-i/\?gS/\?a6,?wY,?_⟩;ext mR;have q:=?m8;by_cases hlt:?w4
 . refine ?zJ ?u2 ?nS;obtain⟨p,v,hp,rfl,rfl,y⟩:=y;exact hs i v σ _ p ?oC pp hp
 . have e:?nG:=O9m
   subst e;exact ?N ⟨?pC,?jM⟩
universe e9
theorem Bk.turnedN{X:Cx}{Ac:Bg}[?n2]{h':Heap}{t':Nat}{fp:?aR}[?H](k:∀b o,b ∉ fp->?q1)(hf:∀b∈fp,P5 X Ac H b) :
 ?zA H ?oS:=by
 have Z2:∀c o,?jX->c ∉ fp:=?sI
 refine I.step (g':=s.gens) (d':=s.drawn) (ch:=fp) (?aZ) (fun b o _ _ hc e _=>?kU) (fun b o _ _ hc e _=>⟨?g4,?kU⟩) (fun _ _ _ _ n=>n)
  (fun b o hc e=>⟨o,?kU⟩) (fun _ _ e=>e) (fun _ _ _ e=>e) (fun b ps e=>⟨#[],by rw[e];simp⟩) ?d9 (fun b u e=>?_) ?bE
 . have f:=?jP;ext i3
 . obtain⟨o,es',ep,ho,r⟩:=hm;exact⟨o,es',ep,k _ o (fun z=>(hf _ z).2.1 rfl) ho,r⟩
 . refine(?L b u e).stay (fun c y hc' q=>?_) (fun c q=>q) fun c ys q=>q;ext eV
   . exact k _ _ (Z2 _ _ e) q
   . exact k _ _ (?h3) q
def XR[?C](a b:Addr):It :=
 ⟨?BG ?aO ?g1,
  ?zH ?aO ?g1,
  fun i H=>∃xs ys,?aO/\?g1/\(?kW\/ys.length<=i)⟩
theorem lQ[?G][?i9][?yC] :
 V2 P w K ?cL ?hN ?cC z (?zN ?mD ?mD) where
 mem:=?T
 obj:=fun i h st c hc=>by
  ext xV;ext hZ
  . ext xU
  . ext xS
  . ext xT
  . ext yE
  . ext yF
 keep:=fun i h h' st k=>by
  ext xA
 item:=by
  ext aB;ext i7;obtain⟨xs,ys,x,y,Vw,JZ,hx,hy⟩:=hg;ext xY;ext y5;ext i2;have ltz:=qb2 hz;refine wpAny_pyNext_zip_item D hz hTI hTO h1 h2 ?k1 ?kJ (x:=u) (y:=v) (by simpa using hu) (by simpa using hv) ?qA;ext y0
  replace Nw:?w0:=Nw
  have kk:?p2:=fun c o hc e=>by
   ext i0;ext yJ
  ext xK;have hi1:?lN i1 a ?s:=?s8;have hi2:?lN i2 b ?s:=?x2;ext x6
  ext xW;refine(?BD ?lP ?lP)
  . refine ?fU (s:=s) (h':=h3) (t':=s.toks) (H':=?fW) I (g':=s.gens) (d':=s.drawn) (ch:=?cC) (?b0) (?zQ ?cR) (?zQ ⟨?g4,?cR⟩) (fun c o hc e n=>?_) (fun c o hc e=>⟨o,?cR⟩)
     (fun c zs e=>?gY) (fun c o w' e=>?gY) (?zX e) ?d9 (fun c w' e=>?_) ?bE
    . have f:=?hI;ext i3
    . rw[?qF];exact n
    . ext xN
    . by_cases hcs:?nU
      . ext xH
      . ext xF
        ext eV
        . exact ?tU
        . ext mV
  . have lb:?rO:=by
     ext xJ
     . exact ltz
     . exact qb2 hTI
     . exact qb2 hTO
     . exact qb2 q1
     . exact qb2 q2
    rw[?lS];exact(?hI).1
 done:=by
  ext aB;ext i7;obtain⟨xs,ys,Vw,JZ,hx⟩:=hg;ext xY;have la:=ra.length;have lb:=rb.length;refine wpAny_pyNext_zip_end ?cZ D hz hTI hTO h1 h2 ?k1 ?kJ ?_ ?tP
  . rcases hx with q | q
    . exact ?N ?dW
    . exact ?aM ?dW
  . ext i0;exact ?iY
 self:=?nL
inductive uJ[?C][?iC]:Prop
 | mk:∀a b,?s3->((∃xs,SqL K H1 a xs))->((∃ys,SqL K H1 b ys))->(R ?hN H1)->?sW
def Au9[?C](ta:TA):TI:=?z4 ?sW
theorem KZ:?pV:=?bM
theorem aQ[?x9] :
 ?BA Au9:=by
 subst hK;intro Ac s σ H R I h;refine Call_ (Iy I hg hm KZ (qf1 (Dk (ha pos Ac s σ H _ I h) fun us s1 ⟨vs,H1,I1,r1,q1⟩=>?_) (by rw[hs,hs2]) (by rw[hs2];rfl)));obtain⟨la,lb,e,⟨xs,Vw⟩,⟨ys,JZ⟩,q⟩:=q1;subst e;cases r1 with
 | cons ra rr =>
   cases rr with
   | cons rb rr =>
     cases rr;cases ra;cases rb;obtain⟨ia,_,pa,_⟩:=?kX Vw;obtain⟨ib,_,pb,_⟩:=?kX JZ;have a1:?v4:=by obtain⟨_,e,_⟩:=pa.isList;exact ?eQ
     have a2:?qT:=by obtain⟨_,e,_⟩:=pb.isList;exact ?eQ
     refine call_zip_2 ?k1 ?kJ ?tC;refine ?z5 lQ
     have lc:?pY:=by
      ext hZ
      . ext bA
      . ext bA
      . ext bA
      . exact ?bD
      . ext bA
     exact ?vZ
section
variable[?i4]
theorem dY[?xE]
 [?x8]
 [?mS]:?zO ?hN tc:=by
 ext xD
 . ext x7
 . have e:i=n:=O9m
   ext y6
theorem RL[?I][?z0]{g:TG}{tb:TS}{D:Ends}{σ:St}{H:Hp}(hn:n=min ?e8 ys.length)(Pv:?jN)(h0:?sA)(hl:∀i σ H,i<=n->?a6->?tB)
 (hs:∀i x y σ H p,?aL->?cF->?B4 (?dY)) [?yW] :
 ∃W:?f1,?gI/\∀i m σ H,?hM →
   (?AA ?fH)\/(?z1 ?fH ?fH):=by
 ext xR;ext mR;obtain⟨qa,qb⟩:=?m8;by_cases hlt:i<n
 . refine ?zJ ?vS ?oO;obtain⟨p,u,v,hp,rfl,rfl,y1,y2⟩:=y;exact hs i u v σ _ p (y1 xs qa) (y2 ys qb) pp hp
 . have e:i=n:=O9m
   subst e;exact ?N ⟨?v3,?jM⟩
universe e9
theorem op_mulX{X:Cx}:OpR X (?w5 .Mult) (rI ?bW fun i j=>?d (i*j)):=opI fun _ _ _ _ _ _ _ hc q=>mul_int q hc
theorem iM{i:Int}{m:Nat}(h:?uC):?k8 i<=m:=by
 unfold Builtin.Int.intBits;split
 . exact ?aH
 . rename_i h0
   have hne:i.natAbs≠0:=by
    intro z
    exact h0 (by have:i=0:=O9m
                 simp[this])
   exact(?lW hne).mpr h
theorem Sk{i j:Int}{m n:Nat}[?n7](hj:j.natAbs<2 ^ n)(h:m+n<=134217728):?bW i j:=by
 have h1:=iM hi;have h2:=iM hj
 have h3:¬((?k8 i:Nat):Int)+((?k8 j:Nat):Int) > ((bitsLine:Nat):Int):=by
  have:bitsLine=134217728:=?wS
  omega
 unfold IntMulOk;intro hz;simp only[qc3]at hz;have h4:=hz.2;unfold Builtin.Int.intTooBig at h4;exact h3 (by simpa using h4)
theorem AV{i j:Int}(h1:-(2 ^ 64)<i)(h2:i<2 ^ 64):?bW i j:=XX.ok (?N ?jT)
universe L2
namespace L2
open PySem PySem.W PySem.Calls PyProof.Rows
def O8:Nat:=1048576
theorem Wi:∀{ns:?a4}{x:Int},x∈ns->?uE<=?zT WData.weightAll
 | n::ns,x,h=>by
   rw[qd5];simp only[WData.weightAll];rcases ?mA h with rfl | h
   . omega
   . have:=Wi h;omega
theorem kT{ns:?a4}(h:WData.layableAll [?zT WData.list]=true):?g0:=by
 intro x hx
 have h1:?w (?nT (?zT WData.list)<=2 ^ 20)=true:=by
  have:WData.layable (?zT WData.list)=true:=by simpa[WData.layableAll]using h
  unfold WData.layable at this;exact(Bool.and_eq_true_iff.mp this).2
 have h2:?zT WData.weightAll<=1048576:=by
  have:=qd2 h1;simpa only[WData.weight]using this
 have h3:=Wi hx;by_cases h0:x.natAbs=0
 . rw[h0];exact Nat.pow_pos ?R
 . have h4:?uE=x.natAbs.log2+1:=by
    simp only[WData.weight];rw[?o fun z=>h0 (by rw[show x=0 by simpa using z];rfl)]
   have h5:x.natAbs.log2<O8:=by show _<1048576;omega
   exact(?lW h0).mp h5
theorem BW{l:OpenLaw}{n:Nat}[?xQ]
 (hn:?r5) (hdf:?tY)
 (call:∀(w:World) (s₀ s₁:Shared) (mg mb:?eS) (fa:Addr) (o:Obj) (pm cd doc:Value) (a:Addr) (vs:?f3) (ns:?a4),(?g0) →
   Ground q loose [] XP w s₀ mg mb ?m0->YP w ?m0 →
   ?wU fa=?q->o.data=.func (docDef ?kC d.params d.body d.scope pm cd doc)->s₁.heap.CodeRec cd ?kC->?p8 →
   ?wU a=?c { cls:=?gZ,data:=?aN vs.toArray }->IntsAre vs ns->?vB->s₁.gens=#[] →
   codeAny (model l.prog w) callerA (.call ?wJ ⟨?eC,[]⟩) (fun r s'=>r=.ok (.ret (?h2))/\OldK ?m0 s'.heap/\s'.os=s₁.os/\AllBare s'.gens) s₁) :
 ?zV WalkO:=by
 intro w s₀ s₁ mg mb G Y fa o pm cd doc dV kV ho hd hcd hD hmg hg args vals as hpre hlay hrd hwl hlo;obtain rfl:dV=?A:=Dflts.none hD hdf;obtain rfl:kV=?A:=Dflts.noKw hD;obtain⟨a,vs,ns,rfl,rfl,hobj,hints,hlen⟩:=Att.script_of hn hpre hwl;refine enter_call (codeAny_mono (?bF w s₀ s₁ mg mb fa o pm cd doc a vs ns (kT hlay) G Y ho (fd_plain hd) hcd hmg hobj hints hlen hg) fun r s' hq=>?_);obtain⟨rfl,h2,h3,h4⟩:=hq;exact⟨?N ⟨?h2,?h2,[],rfl,fun _=>rfl,?h2,Att.post_true l _,fun _=>⟨List.Pairwise.nil,fun _ hm=>(nomatch hm)⟩⟩,h2,h3,h4⟩
theorem walk_ofB{l:PySem.W.OpenLaw}{n k:Nat}[?xQ]{K:Params->PySem.W.Frag}{CX:World->oW}{sp:World->Sp}{x:Str}
 (hn:?r5) (hn2:?AB n) (hdf:?tY) (hr:F6 k callerA)
 (hY:∀(w:World) (h:Heap),YP w h->?k6 h)
 (F:∀(w:World) (mg:?eS) (fa:Addr) (h:Heap),?k6 h->h.Ns ?v7 mg->?p8 →
   ∃fd:FuncData,(∀(s:Shared) (u:Value),BindsTo s fd ⟨[u],[]⟩ [(x,u)]) ∧
     ∀base:Heap,?k6 base->base.Ns ?v7 mg->By l.prog w (K w.params) mg base (CX w) k fa fd [x] (sp w))
 (IC:∀(w:World) (H:Hp) (a:Addr) (ns:?a4),?vB->(?g0)->xQ H->SqL (K w.params) H a ?r3->sp w ?eC H (fun v _=>v=?gN) ?sO)
 (hCX:∀(w:World) (H:Hp) (s:Shared) (e:Value) (s':Shared),CX w [] H s (?sO) e s'->False) :
 ?zV PySem.W.WalkO:=by
 refine BW hn hdf fun w s₀ s₁ mg mb fa o pm cd doc a vs ns wR G Y ho hd hcd hmg hobj hints hlen hg=>?_;have KX:=hY w _ Y;obtain⟨fd,hb,hF⟩:=F w mg fa _ KX G.T.g hmg;exact NB KX G.T.g G.T.b G.T.builtins G.T.nolimit hg hobj hints (qa6 hlen hn2) hr hF hb (fun H hO hS=>IC w H a ns hlen wR hO hS) fun H e s'=>hCX w H s₁ e s'
universe L2
namespace Hb
def Ai(f:?m):?m
 | 0=>0
 | n+1=>?cW
theorem Ag{f g:?m}:∀{n:Nat},(∀k,k<n->f k=g k)->?b2=?g8
 | 0,_=>rfl
 | n+1,h=>by
   show ?cW=?g8+g n;rw[Ag ?oG,h n ?g]
theorem Pd:∀n:Nat,Ai (?dQ) n=0
 | 0=>rfl
 | n+1=>by show ?dX+0=0;rw[Pd n];rfl
theorem Cd(f g:?m):∀n:Nat,Ai (fun k=>f k+g k) n=?b2+?g8
 | 0=>rfl
 | n+1=>by
   show ?dX+(f n+g n)=(?cW)+(?g8+g n)
   rw[Cd f g n];omega
theorem Ay(c:Int)(f:?m):∀n:Nat,Ai (fun k=>c*f k) n=c*?b2
 | 0=>by show ?j3=c*0;rw[qe2]
 | n+1=>by
   show ?dX+c*f n=c*(?cW);rw[Ay c f n,Int.mul_add]
theorem Cv(c:Int)(f:?m)(n:Nat):Ai (fun k=>f k*c) n=?b2*c:=by
 rw[qf9,←Ay];exact Ag fun k _=>qf9 ..
theorem Bw[?iM](m:Nat):∀n:Nat,Ai (fun i=>Ai ?bX m) n=Ai (fun j=>?pR) m
 | 0=>(Pd m).symm
 | n+1=>by
   show ?dX+Ai (f n) m=Ai (fun j=>?pR+f n j) m;rw[Bw f m n,Cd]
theorem Da(f:?m)(i:Nat):∀n:Nat,Ai (fun k=>(if k=i then 1 else 0)*f k) n=if i<n then f i else 0
 | 0=>by simp[Ai]
 | n+1=>by
   show ?dX+(if n=i then 1 else 0)*f n=_;rw[Da f i n];by_cases h:n=i
   . subst h;simp
   . by_cases h2:i<n
     . rw[?r h2,?o h,?r ?g];omega
     . rw[?o h2,?o h,?iX];omega
def Io[?b9]:?a4:=?sJ f
theorem Pj[?b9]:(?bT).length=n:=by unfold Io;rw[qa2,qi8]
theorem qW{n i:Nat}[?aV](h:i<n):?BE (?bT) ?bX:=by
 unfold Io;rw[qa9,ql2 h];rfl
theorem Xx[?b9]:?nC=?bT++[f n]:=by
 unfold Io;rw[qk6,qb1];rfl
theorem m9[?yR]:?bT=Io n g:=by
 unfold Io;refine qu6 fun i hi=>h i (qd8.mp hi)
theorem QV(n:Nat):(?o4 n [?j3]).flatten=?rP:=by
 induction n with
 | zero=>rfl
 | succ n ih =>
   rw[Xx,←ih];clear ih
   induction n with
   | zero=>rfl
   | succ n ih =>
     rw[qi7,qk9,ih];have ih':=ih;rw[qi7,qk9]at ih';rw[←qw0,ih']
theorem xN{i j:Int}{m:Nat}[?n7](hj:j.natAbs<?h4):(i+j).natAbs<2 ^ (m+1):=by
 have h:=qf2 i j;rw[qg4];generalize ?h4=q at *;omega
theorem RZ{i:Int}{m n:Nat}[?n7](h:m<=n):i.natAbs<2 ^ n:=qb3 hi (qe5 ?R h)
theorem OF[?aV]{m:Nat}:∀{n:Nat},(∀k,k<n->(f k).natAbs<?h4)->(?b2).natAbs<2 ^ (m+n)
 | 0,_=>by show(0:Int).natAbs<_;exact Nat.pow_pos ?R
 | n+1,h=>by
   have h1:=OF (n:=n) (f:=f) fun k hk=>h k O9m;show(?cW).natAbs<2 ^ (m+n+1);exact xN h1 (RZ (h n O9m) (qe6 m n))
universe Hb
namespace Hb
open PySem L2
noncomputable abbrev VI[?b9]:?K:=?AR ?bT
def dL[?b9]:L2.D:=?t (Fg (?bT))
def dT(h w:Nat)[?iM]:L2.D:=?t ((?g7 h).map ?k5)
section
variable[?I]{H H' H1 H2:Hp}
theorem Bq[?b9]:?pP=n:=by rw[qa2,Pj]
theorem Ch{n i:Nat}[?aV](h:i<n):?BE ?d7 (?d ?bX):=by rw[qa9,qW h];rfl
theorem Ah2{n i:Nat}[?aV](h:i<n):e9 ?d7 (?hP:Int)=?c (?d ?bX):=Bl (Ch h)
theorem Ur{n i:Nat}[?aV]{u:V}(h:?d7[i]?=?e0):i<n/\u=?d ?bX:=by
 have h1:i<?pP:=(?dS h).1;rw[Bq]at h1;rw[Ch h1]at h;exact⟨h1,(qd3 h).symm⟩
theorem Tb[?b9]:VI ?bU f=?h7++[?d (f n)]:=by
 show ?AR ?nC=_;rw[Xx,qb1];rfl
theorem Pb[?yR]:?h7=VI n g:=by
 show ?AR ?bT=(Io n g).map ?l;rw[m9 h]
theorem XN(n:Nat):(?o4 n [?l 0]).flatten=VI n ?dQ:=by
 show _=?AR ?rP;rw[←QV,List.map_flatten,List.map_replicate];rfl
theorem Ag7{v:V}{n:Nat}[?aV](h:?A5 v ?pQ):∃a,v=?u/\?jR:=by
 obtain⟨a,vs,e,q,r⟩:=h;rw[Gi.mp r]at q;exact⟨a,e,q⟩
theorem nZ[?aE]{n:Nat}[?aV](h:?jR):?A5 ?aF ?pQ:=⟨a,_,rfl,h,Gi.mpr rfl⟩
theorem Hf{v:V}{h w:Nat}[?aD](r:?v0):∃a us,v=?u/\?f7/\?j8/\∀i u,us[i]?=?e0->i<h/\∃b,u=?P/\?r7:=by
 obtain⟨a,us,e,q,r⟩:=r;have hl:?j8:=?vR
 refine⟨a,us,e,q,hl,fun i u hu=>?_⟩;have hi:i<h:=by have:=(?dS hu).1;omega
 obtain⟨d,hd,rd⟩:=r.getV hu;rw[qa9,ql2 hi]at hd;have e2:d=?oY:=(qd3 hd).symm;subst e2;exact⟨hi,Ag7 rd⟩
structure Rows(H H1:Hp)(D:Addr)(as:?aR)(w:Nat)[?iM]:Prop where
 same:?pT
 free:?hR
 «at»:H1 D=?A9 (?kK)
 row:∀j a,as[j]?=?c a->?rZ/\a≠D/\H1 a=?A9 (VI w (f j))
theorem Rows.nil{D:Addr}{w:Nat}[?aD](h:?hR):?AH (?BC D (?t [])) []:=⟨Same.new h,h,Ab,fun j a e=>?iW⟩
theorem Rows.push{D b:Addr}{as:?aR}{w:Nat}[?aD][?eY](hb:H1 b=none)(s:?q4)(h2:H2 b=?A9 (VI w (f as.length))):?AH (upd H2 D (?t (?kK++[?P]))) (as++[b]):=by
 have hne:b≠D:=fun z=>by rw[z,R.at]at hb;cases hb
 refine⟨(R.same.trans s).turn ?d8,?d8,by rw[Ab,qb1];rfl,?sM⟩;by_cases hj:j<as.length
 . rw[qd1 hj]at e;obtain⟨h1,h2',h3⟩:=?dG;exact⟨h1,h2',by rw[Al h2'];exact s _ _ h3⟩
 . have hl:j<(as++[b]).length:=(?dS e).1;have ej:j=as.length:=by simp at hl;omega
   subst ej;have eb:b=a:=?e6
   subst eb;exact⟨R.same.free hb,hne,by rw[Al hne];exact h2⟩
theorem Rows.rep[?iK]{h w:Nat}[?aD][?eY](hl:?lO):Rep K H1 ?cB ?fP:=by
 refine⟨D,_,rfl,.of R.at,?_⟩;subst hl
 have go:∀(bs:?aR) (n:Nat),(∀j a,bs[j]?=?c a->H1 a=?A9 (VI w (f (n+j))))->Reps K H1 (?wF) ((?pG n bs.length).map ?k5):=by
  intro bs
  induction bs with
  | nil=>intro n _;rfl
  | cons b bs ih =>
    intro n hr;refine⟨?P,?wF,rfl,nZ (.of ?_),?_⟩
    . have:=hr 0 b rfl;simpa using this
    . refine ih ?bU ?sM;have:=hr ?e2 a ?fD;rw[?sH];exact this
 have:=go as 0 fun j a e=>by rw[qo8];exact ?lK
 rw[List.range_eq_range'];exact this
theorem Rows.later[?iK]{w:Nat}[?aD][?eY](s:?q4):?AH H2 as :=
 ⟨R.same.trans s,?d8,s _ _ R.at,fun j a e=>⟨(?dG).1,?q5,s _ _ ?lK⟩⟩
theorem Rows.earlier{H0:Hp}[?iK]{w:Nat}[?aD](s:?cI H0 H)[?eY]:?cA H0 H1 D as w f :=
 ⟨s.trans R.same,?jZ ?d8,R.at,fun j a e=>⟨?jZ (?dG).1,?q5,?lK⟩⟩
theorem aA{g:TG}{te:TE}{D:Addr}{Q:?aP}{τ:St}{H:Hp}[?xE]
 (hs:∀i x y zs τ H p,?aL->?cF->?b8->?F->g ?a0 τ (?dY) fun τ2 H2=>te τ2 H2 ?oP)
 [?mS]:?zO ?hN jG:=dY hn Pv h0 hl (fun i x y zs τ H p e1 e2 pp hp=>hs i x y zs τ H p e1 e2 pp hp) hd
universe e9
def newL(H:Hp)[?b9](Q:V->?aP):Prop:=∀(D:Addr) (H':Hp),?hR->?cT->H' D=?A9 ?d7->?oN
def qP(H:Hp)(h w:Nat)[?iM](Q:V->?aP):Prop:=∀(D:Addr) (as:?aR) (H':Hp),?lO->?AH H' as->?oN
section
variable[?C]
def i7:Sp:=fun vs H Q _=>bZ fun ?dU (h w j:Nat) ?f2=>Ed (vs=[v,?d j]) ?hG ?fL (j<w) (newL H h (fun i=>f i j) Q)
def Hn:Sp:=fun vs H Q _=>Qm fun ?dU ?m5 ?f2=>Ed (vs=[v,?d w]) ?hG ?fL ?fB (qP H w h (fun i j=>f j i) Q)
universe e9
section
variable[?C]
def V5:Sp:=fun vs H Q _=>Jp fun ?eH (ns:?a4)=>Ed ?rH (?AE a ?r3) (ns.length<=63) ((?g0)) (∀H',?jJ)
def Ru:Sp:=fun vs H Q _=>XU fun(a b:Int) (x y:Addr) (n:Nat) (p q:?m)=>Kh (vs=[?d a,?e x,?d b,?e y]) (?AE x (VI n p)) (?AE y (VI n q)) (?h8) ((∀j,j<n->?bW a (p j)/\?bW b (q j))) (newL H n (fun j=>a*p j+b*q j) Q)
def P9:Sp:=fun vs H Q _=>xV fun(x:Addr) ?dU ?m5 (a:?m) ?f2=>Nm (vs=[?e x,v,?d w]) (?AE x (VI h a)) ?hG ?fL ?fB ((∀k j,k<h->j<w->?bW (a k) (f k j))) (newL H w (fun j=>Ai (fun k=>a k*f k j) h) Q)
def Qr:Sp:=fun vs H Q _=>XU fun(u v:V) (h d w:Nat) (f g:?c0)=>BZ (vs=[u,v,?d w]) (?A5 u (dT h d f)) (?A5 v (dT d w g)) ?fL (d<=1000) ?fB ((∀i k j,i<h->k<d->j<w->?bW (f i k) (g k j))) (qP H h w (fun i j=>Ai (fun k=>f i k*g k j) d) Q)
def Wp(_K:W.Frag):Sp:=fun vs H Q _=>∃n i:Nat,vs=[?h5,?a2]/\?h8/\newL H n (fun j=>?uH) Q
def aJ(_K:W.Frag):Sp:=fun vs H Q _=>∃n:Nat,vs=[?h5]/\?h8/\qP H n n (fun i j=>?uH) Q
universe e9
universe Hb
namespace L2
open PySem PySem.Spec PyProof.Rows
structure Jd[?n4][?C][?mP](m:Str)[?mX]:Prop where
 ex:∃(f:Addr) (fd:FuncData),OJ K C m f/\?iT
structure eL[?n4][?C][?mP][?mX]:Prop where
 ex:∃(f:Addr) (fd:FuncData),Mk K C f/\?iT
section
variable{X:Cx}[?I][?yT]{x m f:Str}{p pos apos pos':Pos}{e o value:Expr}{es:?Q}{ta tv:TE}{t:TA}
theorem Df[?xO](ha:?q2)[?n6]
 [?xZ] (hpl:?l6 (·.1)=false:=by rfl)
 (ht:?B8 (?z3 o ?bB)=(do
   let ov ←?gF
   ?l1
   let ?kQ ←?mF
   ?vF):=by rfl) :
 ?B9 ?bB t:=by
 ext mQ;exact qG he c h1 h3 ?gO h2 ?p CV ha hst hpl ht
theorem Js[?xO][?n6]
 (ht:?B8 (?z3 o [])=(do
   let ov ←?gF
   ?l1
   let ?kQ ←?mF
   ?zM (?a9 [] ?i)):=by rfl) :
 ?B9 [] uV:=by
 ext mQ;exact MF he c h1 h3 ?gO h2 ?p CV ht
theorem Ly(h:eL ?bJ X.w X.K ?b4 ?m9 C ps j sp)[?y7](hk:j+1<=k:=by decide)[?yO]
 (he:?lL=?mC::?lB:=by rfl) (hpl:?l6 (·.1)=false:=by rfl):PE X (?zB x ?bB) (SQ C sp [] E0 t):=by
 ext mQ;exact QG h1 h3 ?gO hg hm h2 ?p CV ha hdb he hpl
theorem Ba(he:PE X e ta)[?n9](hb:?jA e f ?i (?eO)=?eO:=by rfl):PE X (?Y e f pos) (zH K ta f):=by subst hK;exact vJ he hb
theorem Eg(ha:?u0)(hv:?oH)[?n9](hs:?B1 ?oW:=by rfl):PS X (.Assign [?oW] ?eE pos) (ZM K ta tv f):=by subst hK;exact vG ha hv hs
universe e9
noncomputable abbrev TJ:=St->Hp->(?aP)->Prop
section
variable{X:Cx}{e v₁ v₂:Expr}{es rest:?Q}{te:TE}{tj:TJ}{pos:Pos}
universe e9
universe L2
namespace Hb
open PySem L2
inductive Tn where
 | mi (i:Nat) | sw (i j:Nat) | ad (i j:Nat) (n:Int)
def pA:Tn->L2.D
 | .mi i=>?j [.str "minus",?a2]
 | .sw i j=>?j [.str "swap",?a2,?d j]
 | ?fZ=>?j [.str "add",?a2,?d j,?h5]
def pJ:Tn->(?c0)->?c0
 | .mi i,f=>fun r c=>if r=i then -(f i c) else f r c
 | .sw i j,f=>fun r c=>if r=j then f i c else if r=i then f j c else f r c
 | ?fZ,f=>fun r c=>if r=i then 1*f i c+n*f j c else f r c
def tnB:Tn->Tn
 | ?fZ=>.ad i j (-n)
 | t=>t
def tnA:Tn->Tn
 | ?fZ=>.ad j i (-n)
 | t=>t
def tB(B:Nat):Tn->Prop
 | .ad _ _ n=>n.natAbs<2 ^ B
 | _=>True
theorem Lw{f:Str}{v:V}:∀{fs:?A6 Str V}{x:V},fs.lookup f=?b7->(putF f v fs).length=fs.length
 | [],x,h=>by cases h
 | (g,y)::r,x,h=>by
   unfold putF;by_cases e:g=f
   . rw[?eP];rfl
   . rw[?fI,qc8,qc8];rw[qp2]at h;have e2:(f==g)=false:=by simpa using ?j7
     rw[e2]at h;rw[Lw h]
def Sq(H:Hp)(Z:?m4):Hp:=fun a=>@ite _ (Z a) (Classical.propDecidable _) none (H a)
section
variable[?I]{H H' H1:Hp}{Z:?m4}
theorem So[?aE](h:¬Z a):?nR=H a:=by unfold Sq;rw[?o h]
theorem X8[?aE](h:Z a):?nR=none:=by unfold Sq;rw[?r h]
theorem L4:?cI ?oF H:=fun a o e=>by
 by_cases h:Z a
 . rw[X8 h]at e;cases e
 . rw[So h]at e;exact e
theorem w9(h:∀a o,¬Z a->H a=?q->H' a=?q):?uW:=fun a o e=>by
 by_cases hz:Z a
 . rw[X8 hz]at e;cases e
 . rw[So hz]at e ⊢;exact h a o hz e
theorem LV(s:?cT):?uW:=w9 fun a o _ e=>s a o e
theorem DX[?aE]{us:?K}{h w:Nat}[?aD](hq:?f7)(hl:?j8)(hr:∀i,i<h->∃b,us[i]?=?wK/\?r7):?A5 ?aF ?fP:=by
 refine⟨a,us,rfl,hq,?_⟩;subst hl
 have go:∀(vs:?K) (n:Nat),(∀j,j<vs.length->∃b,vs[j]?=?wK/\?AE b (VI w (f (n+j))))->Reps K H vs ((?pG n vs.length).map ?k5):=by
  intro vs
  induction vs with
  | nil=>intro n _;rfl
  | cons v vs ih =>
    intro n hv;obtain⟨b,e,hb⟩:=hv 0 ?n;have ev:v=?P:=?e6
    subst ev;refine⟨?P,vs,rfl,nZ ?hJ,?_⟩;refine ih ?bU ?jI;obtain⟨b',e',hb'⟩:=hv ?e2 (by simpa using hj);refine⟨b',by simpa using e',?_⟩;rw[?sH];exact hb'
 have:=go us 0 fun j hj=>by rw[qo8];exact hr j hj
 rw[List.range_eq_range'];exact this
theorem Rows.hid[?iK]{h w:Nat}[?aD][?eY](hl:?lO)(hz:∀a,Z a->?wI):Rep K (Sq H1 Z) ?cB ?fP:=by
 have nz:∀a,?rZ->¬Z a:=fun a e z=>hz a z e;refine DX (us:=?kK) (.of ?_) (by rw[qa2];exact hl) ?vP
 . rw[So (nz D ?d8)];exact R.at
 . have hi':i<as.length:=O9m
   obtain⟨h1,_,h3⟩:=R.row i as[i] (qa0 hi');refine⟨as[i],by rw[qa9,qa0 hi'];rfl,.of ?_⟩;rw[So (nz _ h1)];exact h3
universe e9
section
variable[?C]
def Ii:Sp:=fun vs H Q _=>Rs fun ?eH (n:Nat) (f:?m)=>B6 (vs=[?u,?h5]) (?jR) (?h8) (∀H',?cT->?jJ)
def Uz:Sp:=fun vs H Q _=>Qm fun ?dU ?m5 ?f2=>Ed (vs=[v,?d w]) ?hG (h<=40) ?fB (∀H',?cT->?jJ)
def j3:Sp:=fun vs H Q _=>Jp fun(u:V) (t:Tn)=>Ef (vs=[u]) (?A5 u (pA t)) (∀(v:V) (H':Hp),?cT->Rep K H' v (pA (tnA t))->Q v H')
variable(CL CT:Addr)
universe e9
section
variable[?I][?y9][?aD]{ds:?A6 Bool Tn}
def Ls(H H':Hp):Prop:=∀c q,H c=?oI->H' c=?oI
def Kp(H H':Hp):Prop:=∀a,?wI->H' a≠none
theorem Kp.trans{H H1 H2:Hp}(x:?lA)(y:Kp H1 H2):Kp H H2:=fun a e=>y a (x a e)
theorem Kp.of{H H1:Hp}(s:?pT):?lA:=fun a e z=>e (?jZ z)
theorem Kp.upd{H:Hp}{p:Addr}{o:HO}:Kp H (?BC p o):=fun a e z=>by
 by_cases hap:a=p
 . rw[hap,Ab]at z;cases z
 . rw[Al hap]at z;exact e z
theorem Kp.x{H H1:Hp}{p:Addr}{o:HO}(s:SameX p H H1)(hp:H1 p=?q):?lA:=fun a e z=>by
 by_cases hap:a=p
 . rw[hap,hp]at z;cases z
 . cases q:H a with
   | none=>exact e q
   | some o'=>rw[s a o' hap q]at z;cases z
universe e9
section
variable[?C]
universe e9
section
variable[?I][?y9][?aD]{ds:?A6 Bool Tn}
universe e9
universe Hb
namespace L2
open PySem PySem.Spec PyProof.Rows PySem.W
section
variable{X:Cx}
def Uu(_i j:Int):Prop:=j≠0/\j.natAbs.log2<9000
theorem Uu.of{i j:Int}(h0:j≠0)(h:j.natAbs<2 ^ 9000):Uu i j:=⟨h0,(?lW O9m).mpr h⟩
theorem Ka:OpR X (?w5 .FloorDiv) (rI Uu fun i j=>?d (i.fdiv j)):=opI fun _ _ _ _ _ _ _ hc q=>floordiv_int hc.1 q (?N (PyProof.noPylong_of_log2 hc.2))
def insAt(k:Nat)(y:α)(xs:?l7):?l7:=xs.take k++y::xs.drop k
inductive eK(x:V)(vs:?K)(H:Hp)(Q:VK):Prop
 | mk:∀(l:Addr) (xs:?K) (k:Nat) (y:V),(x=?e l)->(vs=[?d k,y])->(H l=?A9 xs)->(k<=xs.length)->(xs.length<sizeLine)->(Q .non (?BC l (?t (insAt k y xs))))->?vX
def pX:V->?gT:=fun x vs H Q=>?vX
theorem Tz:MtM X "list.insert" pX:=by
 intro Ac s σ H x vs v us Q I rx rv h;obtain⟨l,xs,k,y,rfl,rfl,hH,hk,hz,q⟩:=h;cases rx;obtain⟨u1,u2,rfl,r1,r2⟩:=CD rv;obtain⟨t,rfl⟩:=r1;obtain⟨z,its,n,r,hl,e⟩:=I.lstM hH
 have hsl:((k:Nat):Int)<2 ^ 63:=by
  have h1:?AB k:=O9m
  have h2:sizeLine<=2 ^ 62:=?bM
  have h3:=qa6 h1 h2;omega
 have hfit:¬(!Builtin.List.listFitsIndex (k:Int))=true:=by
  rw[fitsIndex_both ?g hsl];exact qd6
 have hsz:?AB its.toArray.size:=by rw[qb8];omega
 obtain⟨ki,hki⟩:∃ki:Int,ki=(k:Int):=?jE
 rw[←hki]at hfit ⊢;have hm:=AutoSeq1.list_insert_list_int_val_1 l ?fR n ki t u2 hfit hsz;refine ?rY F.slot_list_insert (?A1 e) F.entry_list_insert (F.args_list_insert_3 _ _ _) hm ⟨e,?_⟩;refine⟨.non,_,I.lset (its':=insAt k u2 its) hH e ?_ ?_ ?_,rfl,q⟩
 . have hkl:k<=its.length:=O9m
   have hkn:ki.toNat=k:=O9m
   simp only[qb8,hkn];rw[?iX,Nat.min_eq_left hkl];apply Array.ext';simp only[insAt,Array.toList_append,Array.toList_push,Array.toList_extract,List.extract_eq_drop_take,List.drop_zero,qw2];rw[qw0,ql8 (i:=its.length-k) (by rw[qi5];omega)];rfl
 . exact(r.take k).append (?D r2 (r.drop k))
 . unfold insAt;rw[qc0,qc8,qc4,qi5];omega
structure Ai8(K:Frag)(D:Addr)(m:Str)(f:Addr):Prop where
 rd:readsIn K D (?v "type")=true
 fc:findCls K ?cB (?v "type") m=?c (.val (?e f))
 ga:specialIn K ?cB "__getattribute__"=?c (?c (?dC "type.__getattribute__"))
 kp:W.keepIn K (?e f)=true
structure XT[?n4](K:Frag)[?mP](m:Str)[?mX]:Prop where
 ex:∃(f:Addr) (fd:FuncData),Ai8 K C m f/\?iT
theorem QH[?yT]{x m:Str}{np apos pos:Pos}{e:Expr}{es:?Q}{t:TA}{pl:?vV}(h:?AK XT)[?y7][?n6]
 [?yO] [?xZ] (hpl:?l6 (·.1)=false:=by rfl)
 (ht:?B8 (?z3 (?a7 x np) ?bB)=(do
   let ov ←?B8 (?a7 x np)
   ?l1
   let ?kQ ←?mF
   ?vF):=by rfl) :
 PE X (?z3 (?a7 x np) ?bB) (tCall sp [] E0 t):=by
 obtain⟨f,fd,B,hb,F⟩:=h.ex;ext iJ;refine qo7 (pl:=pl) (Wb I hg hm ?_ hdb) ht;refine method_cls I.kIn B.ga (cls_value I.kIn B.rd B.fc rfl ?_);refine qq4 (h₀:=X.base) I.ok.mod.kin B.kp (Dk (ha pos Ac _ σ H _ (I.tok _) h) fun us s1 ⟨vs,H1,I1,r,q⟩=>⟨I1.kIn,?_⟩) hst hpl;exact AN F ?gO hb ?p CV I1 r q
universe e9
universe L2
namespace L2
open PySem PySem.Spec PyProof.Rows
section
variable[?eX][?aC]{s:Shared}
theorem Ix[?yX]{x:Value}[?aT][?yI](gx:vs[n]?=?b7)
 (k:∀h',?eT j t ?bU->?dK j ?y h'->Q x ?cE):?v1:=by
 ext x4;simp only[qf5,gx];refine qa7 (?sR q1 q3 ?n (qc1 ⟨x,rfl,qc1 (k _ ?_ (Heap.SameBut.update ..))⟩));exact⟨_,Heap.get?_update_self _ q1 (Obj.isFreed_of_fields (?oD q3 _)),(Obj.cls_mapFields ..).trans q2,by rw[?oD q3];simp[rawInt]⟩
theorem Ot[?yX][?aT][?n8][?yI](gx:vs[n]?=none)
 (k:∀h' e,Heap.ExtBut j ?y h'->?q7):?v1:=by
 ext x4;simp only[qf5,gx];refine qa7 (?kS (qa7 (?sR q1 q3 ?n ?_)));show ?z2 (newExc (?v ?jO) []>>=_) _;refine ?dJ;simp only[newExc,newTuple];refine qa7 (?nN);refine qa7 (m:=firstArgMember _ _) (wpAny_of_eq (a:=Value.none) (by first | rfl | (simp only[firstArgMember];rfl)) ?_);refine ?nN;simp only[raiseNew];refine ?AC wpAny_handled
 first | rw[show A.in1.handled=none from hn] | rw[hn]
 refine qa7 (qc1 (wpAny_throw ?_));exact k _ _ (((Heap.SameBut.update ..).extBut.push _).push _) (?A1 ?bP)
theorem iZ[?i5]{x y u v:Value}[?aT][?hX]
 [?hY] [?yS]
 (k:∀h',?wH->?pB->?q8->?u7->?oU->?rD →
   ?hF->Q (?Z) ?cE) :
 ?f ?aW A (?B5 z) (fun fin s'=>∃r,fin=.done (.ret r)/\Q r s') E s:=by
 ext yM;ext x5
 replace wX:?uP:=wX
 ext xB;refine qa7 (Ix (g1.extBut ?aQ D.i1z) (e1.extBut ?aQ D.l1z) gx fun k2 f1 w2=>?h0);have gb2:?B k2 b u v:=?dD _ _ D.TOi1 (?aQ _ _ D.TOz gb);refine ?A4 gb2;refine qa7 (?sS gb2 fun k3 gb3 w3=>?_)
 replace gb3:?B k3 b x v:=gb3
 refine qa7 (?uO ?gD);refine qa7 (?AC wpAny_onRaise);show ?z2 (?j9 ?f5>>=_) _;refine qa7 (Ix (((g2.extBut ?aQ D.i2z).extBut ?dD D.i12.symm).extBut ?bQ ?o0) (((e2.extBut ?aQ D.l2z).extBut ?dD D.l2i1).extBut ?bQ D.l2TO) gy fun k4 f2 w4=>?h0);have gb4:?B k4 b x v:=?gM _ _ D.TOi2 gb3;refine ?A4 gb4;refine qa7 (?sS gb4 fun k5 gb5 w5=>?_)
 replace gb5:?B k5 b x y:=gb5
 refine qa7 (?uO ?tD);refine ?A4 gb5;refine ?AC wpAny_newTuple;have sz:?AO k5.objs.size:=by rw[w5.1,w4.1,w3.1,w2.1,w1.1]
 have gz5:?A3 k5 ?fO:=?h6 _ _ ?w8 (?gM _ _ D.i2z.symm (?bQ _ _ ?w8 (?dD _ _ ?sQ wX)));have kp:∀c o,c≠z->c≠b->c≠i1->c≠i2->?j0->k5.get? c=?q:=fun c o c1 c2 c3 c4 e=>?h6 _ _ c2 (?gM _ _ c4 (?bQ _ _ c2 (?dD _ _ c3 (?aQ _ _ c1 e))));have f15:?r9 i1 t1 ?bU:=((f1.extBut ?bQ ?o9).extBut ?gM D.i12).extBut ?h6 ?o9;have f25:?r9 i2 t2 (m+1):=f2.extBut ?h6 ?o0;have lz:z<k5.objs.size:=qb2 gz5;show ?z2 (Builtin.SmallTypes.ownedTupleHandOut ?c8 ?qB>>=_) _;refine ?dJ;unfold Builtin.SmallTypes.ownedTupleHandOut;have gz6:?A3 (k5.push { cls:=?cJ,data:=?aN #[x,y] }) ?fO:=?A2 gz5;refine qa7 (qh9 gz6 ?n fun k7 gz7 w7=>?_)
 replace gz7:?A3 k7 ?o8:=gz7
 refine qh9 gz7 ?n fun k8 gz8 w8=>?_
 replace gz8:?A3 k8 ?o8:=gz8
 have up:∀c o,c≠z->k5.get? c=?q->k8.get? c=?q:=fun c o c1 e=>?sF _ _ c1 (?tO _ _ c1 (?A2 e));have gt:?B k8 ?j6 x y:=?sF _ _ ?nI (?tO _ _ ?nI (?bP));have s8:k8.objs.size=k5.objs.size+1:=by rw[w8.1,w7.1,qi0]
 rw[sz]at gz8 gt s8;refine qc1 ⟨_,rfl,?_⟩;show Q ?qB _;rw[sz];exact k k8 gz8 (up _ _ D.TOz gb5) (f15.at fun o e=>up _ o D.i1z e) (f25.at fun o e=>up _ o D.i2z e) gt s8 fun c o c1 c2 c3 c4 e=>up c o c1 (kp c o c1 c2 c3 c4 e)
theorem lN[?i5]{u v:Value}{Q:PySem.Fin->?dV}[?n8][?hX]
 [?hY] (gx:?rU)
 (k:∀h' e,?hF->?q7) :
 ?z8 ?aW (?B5 z):=by
 ext yM;ext x5
 replace wX:?uP:=wX
 ext xB;refine qa7 (Ot hn (g1.extBut ?aQ D.i1z) (e1.extBut ?aQ D.l1z) gx fun k2 e w2 he=>?_);obtain⟨oe,ge,ce⟩:=he;have gz2:?A3 k2 ?fO:=w2 _ _ ?sQ wX;have ne:e≠z:=fun q=>by subst q;rw[gz2]at ge;cases ge;simp at ce
 refine qh9 gz2 ?n fun k3 _ w3=>k k3 e (fun c o c1 _ c3 _ q=>?bQ _ _ c1 (w2 _ _ c3 (?aQ _ _ c1 q))) ⟨oe,?bQ _ _ ne ge,ce⟩
theorem Xs[?i5]{x y u v:Value}[?mU][?hX]
 [?hY] [?yS]
 (k:∀h',?wH->?pB->?q8->?u7->?oU->?rD →
   ?hF->Q (?c (?Z)) ?cE):?p9:=by
 ext yG
 unfold pyNext;exact ?z9 (iZ D gz ga gb g1 g2 e1 e2 gx gy fun h' a1 a2 a3 a4 a5 a6 a7=>qc1 (k h' a1 a2 a3 a4 a5 a6 a7))
theorem Z3[?i5]{u v:Value}[?mU][?n8][?hX]
 [?hY] (gx:?rU)
 (k:∀h',?hF->Q none ?cE):?p9:=by
 ext yG
 unfold pyNext;refine ?z9 (lN hn D gz ga gb g1 g2 e1 e2 gx fun h' e kp he=>?_);obtain⟨o,q1,q2⟩:=he;exact qa7 (wpAny_isInstance (T:=?jO) (b:=true) ⟨o,q1,q2⟩ isSubtype_stop (qc1 (k _ kp)))
universe e9
noncomputable abbrev zt1(h:Heap)(a:Addr):Heap:=h.push ?pJ
noncomputable abbrev zt2[?iL]:Heap:=(zt1 h a).push { cls:=?v "tuple_iterator",data:=?b3 #[?P,?jW] }
noncomputable abbrev zt3[?iL]:Heap:=(?qO).push { cls:=?cJ,data:=?aN #[?e ?p5,?e (zt1 h a).objs.size] }
noncomputable abbrev zt4[?iL]:Heap:=(?pO).push { cls:=?cJ,data:=?aN #[?A,?A] }
noncomputable abbrev uN[?iL]:Heap:=(zt4 h a b).push { cls:=?gK,data:=?b3 #[?A,?kI,?kI,?e (?qO).objs.size,?e (?pO).objs.size] }
theorem LM(a b:Addr)(xs ys:?cD):Meets (Builtin.«zip.__new__» ⟨[?gK,?u,?P],[]⟩) (fun _ R s=>?v6/\?oZ/\R (.ok (.ret (?e ?k7))) { s with heap:=?kM }) :=
 .of_wp fun prog w A R s h=>by
  obtain⟨hp,g,d,tk,os⟩:=s;obtain⟨h1,h2,h⟩:=h;have hsub:=sub_zip;have g1:?u5 (?uZ ⟨hp,g,d,tk,os⟩) a xs:=h1;have g2:?u5 (?uZ ⟨hp.push ?pJ,g,d,tk,os⟩) b ys:=Heap.IsTuple.push h2 _
  wp_walk using qm3 g1,qm3 g2
  exact⟨_,rfl,h⟩
section
variable[?eX][?aC]{s:Shared}
theorem kU{a b:Addr}{xs ys:?cD}[?aT](h1:?v6)(h2:?oZ)
 (k:∀h',?aA h' (?lJ) (?lE) (?l8) ?A->?B h' (?lE) (?Z) (?e (?g3)) →
   ?B h' (?l8) ?A ?A->?eT ?k a 0->?eT (?g3) b 0->h'.objs.size=?qE →
   (∀c o,?rV)->Q (?e (?lJ)) ?cE):?z8 ?aW (?bF (?gK) ?tI):=by
 refine callType_new F.called_zip ?R (F.typeCall_zip_2 _ _) (F.newCall_zip_2 _ _) (fun obj=>F.args_object_init_3 obj _ _) F.entry_zip_new (LM a b xs ys) ⟨h1,h2,?_⟩;have z1:?oX=?g3:=qi0 ..;have z2:?rA=?lE:=by rw[qi0,z1]
 have z3:?uD=?l8:=by rw[qi0,z2]
 have z4:?k7=?lJ:=by rw[qi0,z3]
 have z5:(?kM).objs.size=?qE:=by rw[qi0,z4]
 have q5:?eA ?k7=?dZ:=?bP;have q4:?eA ?uD=?dZ:=?nM;have q3:?eA ?rA=?dZ:=?sD;have q2:?eA ?oX=?dZ:=?wN;have q1:?eA ?k=?dZ:=?A2 (?wN);show _/\_;rw[z2,z3,z4]at q5;rw[z1,z2]at q3;rw[z3]at q4;rw[z1]at q2;rw[z4];exact⟨(?A1 q5),k _ q5 q3 q4 ⟨_,q1,rfl,rfl⟩ ⟨_,q2,rfl,rfl⟩ z5 fun c o x=>?A2 (qa5 _ (qa5 _ (qa5 _ (qa5 _ x))))⟩
universe e9
def Ityp[?C](a b:Addr):It :=
 ⟨?BG ?hU ?fQ,
  ?zH ?hU ?fQ,
  fun i H=>∃xs ys,?hU/\?fQ/\?kW⟩
theorem IZ[?G][?i9][?yC] :
 V2 P w K ?cL (Ityp K a b) ?cC z (?zN ?pE ?pE) where
 mem:=?T
 obj:=fun i h st c hc=>by
  ext xV;ext hZ
  . ext xU
  . ext xS
  . ext xT
  . ext yE
  . ext yF
 keep:=fun i h h' st k=>by
  ext xA
 item:=by
  ext aB;ext i7;obtain⟨xs,ys,x,y,Vw,JZ,hx,hy⟩:=hg;ext xX;ext y5;ext i2;have ltz:=qb2 hz;refine Xs D hz hTI hTO h1 h2 (?AS ?aK a) (?AT ?aK b) (x:=u) (y:=v) (by simpa using hu) (by simpa using hv) ?qA;ext y0
  replace Nw:?w0:=Nw
  have kk:?p2:=fun c o hc e=>by
   ext i0;ext yJ
  ext xK;have hi1:?u8 i1 a ?s:=?s8;have hi2:?u8 i2 b ?s:=?x2;ext x6
  ext xW;refine(?BD ?qW ?qW)
  . refine ?fU (s:=s) (h':=h3) (t':=s.toks) (H':=?fW) I (g':=s.gens) (d':=s.drawn) (ch:=?cC) (?b0) (?zQ ?cR) (?zQ ⟨?g4,?cR⟩) (fun c o hc e n=>?_) (fun c o hc e=>⟨o,?cR⟩)
     (fun c zs e=>?gY) (fun c o w' e=>?gY) (?zX e) ?d9 (fun c w' e=>?_) ?bE
    . have f:=?hI;ext i3
    . rw[?qF];exact n
    . ext xN
    . by_cases hcs:?nU
      . ext xH
      . ext xF
        ext eV
        . exact ?tU
        . ext mV
  . have lb:?rO:=by
     ext xJ
     . exact ltz
     . exact qb2 hTI
     . exact qb2 hTO
     . exact qb2 q1
     . exact qb2 q2
    rw[?lS];exact(?hI).1
 done:=by
  ext aB;ext i7;obtain⟨xs,ys,Vw,JZ,hx⟩:=hg;ext xX;have la:=ra.length;have lb:=rb.length;refine Z3 ?cZ D hz hTI hTO h1 h2 (?AS ?aK a) (?AT ?aK b) ?_ ?tP
  . simp;omega
  . ext i0;exact ?iY
 self:=?nL
inductive oS[?C][?iC]:Prop
 | mk:∀a b,?s3->((∃xs,Dy K H1 a xs))->((∃ys,Dy K H1 b ys))->(R (Ityp K a b) H1)->?t8
def Ac2[?C](ta:TA):TI:=?z4 ?t8
theorem gK:?pV:=?bM
theorem qD[?x9] :
 ?BA Ac2:=by
 subst hK;intro Ac s σ H R I h;refine Call_ (Iy I hg hm gK (qf1 (Dk (ha pos Ac s σ H _ I h) fun us s1 ⟨vs,H1,I1,r1,q1⟩=>?_) (by rw[hs,hs2]) (by rw[hs2];rfl)));obtain⟨la,lb,e,⟨xs,Vw⟩,⟨ys,JZ⟩,q⟩:=q1;subst e;cases r1 with
 | cons ra rr =>
   cases rr with
   | cons rb rr =>
     cases rr;cases ra;cases rb;obtain⟨ia,_,pa,_⟩:=?uN Vw;obtain⟨ib,_,pb,_⟩:=?uN JZ;have a1:?v4:=by obtain⟨_,e,_⟩:=pa;exact ?eQ
     have a2:?qT:=by obtain⟨_,e,_⟩:=pb;exact ?eQ
     refine kU (?AS ?p0 la) (?AT ?p0 lb) ?tC;refine ?z5 IZ
     have lc:?pY:=by
      ext hZ
      . ext bA
      . ext bA
      . ext bA
      . exact ?bD
      . ext bA
     exact ?vZ
section
variable[?i4]
theorem kR[?I][?z0](hn:xs.length=n/\ys.length=n)[?mN](hl:∀i zs τ H,i<=n->?b8->?hU/\?fQ)
 [?x8]
 [?mS]:?zO (Ityp K a b) tc:=by
 ext xD
 . ext x7
 . have e:i=n:=O9m
   ext y6
universe e9
section
variable{κ:Type}[?r6 κ]
def Ny[?eW]:?c7:=(kvs.find? ?lZ).map (·.2)
def Mw[?eW](v:V):?cH :=
 if ?hW=true then ?aI (?zF (?E,v)) else kvs++[(k,v)]
def Vc[?eW]:?cH:=kvs.filter fun kv=>?w (?E≠k)
theorem Wj[?yV](e:?S):?nZ=?c p.2:=?wW
theorem Wk[?yV](e:¬?S):?nZ=Ny r k:=?wW
theorem cE(k:κ):∀kvs:?cH,?hW=?nE
 | []=>rfl
 | p::r=>by
   rw[qm2];ext d2
   . simp only[Wj e,qg3 e,Bool.true_or,Option.isSome_some]
   . rw[Wk e,qi9 e,Bool.false_or];exact cE k r
theorem Ov[?eW](v:V):?sT<=kvs.length+1:=by
 unfold Mw;split
 . rw[qa2];omega
 . rw[qc0,qc8,qk8];omega
theorem N1.isSome_eq{o:?c7}{u:?dE}(r:N1 o u):o.isSome=u.isSome:=by
 cases o with
 | none=>cases u with
   | none=>rfl
   | some _=>ext iE
 | some _=>cases u with
   | none=>ext iE
   | some _=>rfl
theorem N1.getD{o:?c7}{u:?dE}{d:V}{d':Value}(r:N1 o u)(rd:?J d d'):?J (o.getD d) (u.getD d'):=by
 cases o with
 | none=>cases u with
   | none=>exact rd
   | some _=>ext iE
 | some _=>cases u with
   | none=>ext iE
   | some _=>exact r
theorem KV.val[?c3](k:κ):N1 (?b5) (?iR):=by
 unfold KV at r
 induction r with
 | nil=>ext d3
 | @cons p q ps qs h t ih =>
   obtain⟨h1,h2⟩:=h;ext d2
   . have e':q.1=k:=?fE;have b:?qG=?c q.2:=?wP
     rw[Wj e,b];exact h2
   . ext mO;have b:?qG=?lU qs k:=?wP
     rw[Wk e,b];exact ih
theorem KV.any[?c3](k:κ):?hW=?vD:=by
 unfold KV at r
 induction r with
 | nil=>rfl
 | cons h t ih=>rw[qm2,qm2,ih,h.1]
theorem KV.repl[?c3](k:κ)[?mY] :
 KV (?aI (?zF (?E,y))) (vs.map (?zF (?E,u))):=by
 unfold KV at r ⊢
 induction r with
 | nil=>exact ?p
 | @cons p q ps qs h t ih =>
   rw[qd5,qd5];refine ?r4;obtain⟨h1,h2⟩:=h;ext d2
   . rw[?eP,?qC];exact⟨h1,ry⟩
   . ext yL;exact ?jT
theorem KV.put[?c3](k:κ)[?mY]:KV (Mw kvs k y) (?l9 vs k u):=by
 unfold Mw stored;rw[r.any k];by_cases e:(?vD)=true
 . rw[?eP,?eP];exact ?u9
 . rw[?fI,?fI];exact ?r8 r ⟨rfl,ry⟩
theorem KV.drop[?c3](k:κ):KV (?f9) (without vs k):=by
 unfold KV at r ⊢;unfold Vc without
 induction r with
 | nil=>exact ?p
 | @cons p q ps qs h t ih =>
   obtain⟨h1,h2⟩:=h;rw[qj6,qj6];ext d2
   . have a:¬?vT:=?uA
     have b:¬?qK:=by simp[?fE]
     rw[?o a,?o b];exact ih
   . ext mO;have a:?vT:=?uA
     have b:?qK:=by simp[e']
     rw[?r a,?r b];exact ?D ?jT ih
theorem KV.keys[?c3]:?aI (·.1)=vs.map (·.1):=by
 unfold KV at r
 induction r with
 | nil=>rfl
 | cons h t ih=>rw[qd5,qd5,ih,h.1]
theorem KV.length[?c3]:kvs.length=vs.length:=?vY r
theorem DT[?eW]:(?f9).length<=kvs.length:=qg6 _ _
universe e9
theorem kV_is[?G]{k:Key}{u:Value}(r:?jS):?vG:=by
 cases k with
 | inl i=>obtain⟨t,e⟩:=(show ?nO from r);subst e;exact DK P w i t
 | inr x=>obtain⟨t,e⟩:=(show ?w1 from r);subst e;exact DJ P w x t
theorem v6[?G]:∀{ks:?c1}{us:?f3},Vals (ks.map kV) us->ItemsAre ?cY ks us
 | [],_,r=>by rw[qt5]at r;cases r;exact ?p
 | k::ks,_,r=>by
   rw[qd5]at r;cases r with
   | cons h t=>exact ?D (?fG h) (v6 t)
noncomputable abbrev KT(H:Hp):?dI->?kV->Prop:=?mH fun p q=>p.1=q.1/\H q.2.1=?c (?j (p.1.map kV))/\?J p.2 q.2.2
theorem KT.val{H:Hp}[?i1](k:?c1):N1 (?b5) ((?tJ).map (·.2)):=by
 induction r with
 | nil=>ext d3
 | @cons p q ps qs h t ih =>
   obtain⟨h1,_,h2⟩:=h;ext d2
   . have e':q.1=k:=?fE;have b:?p7=?c q.2:=?qY
     rw[Wj e,b];exact h2
   . ext mO;have b:?p7=atKey qs k:=?qY
     rw[Wk e,b];exact ih
theorem KT.repl{H:Hp}[?i1](k:?c1)[?mY] :
 KT H (?aI (?zF (?E,y))) (xs.map (putAt k u)):=by
 induction r with
 | nil=>exact ?p
 | @cons p q ps qs h t ih =>
   rw[qd5,qd5];refine ?r4;obtain⟨h1,h2,h3⟩:=h;unfold putAt;ext d2
   . rw[?eP,?qC];exact⟨h1,h2,ry⟩
   . ext yL;exact⟨h1,h2,h3⟩
theorem KT.put{H:Hp}[?i1](k:?c1){b:Addr}{y:V}{u:Value}(hb:?k2)(ry:?gV) :
 KT H (Mw kvs k y) (storedH xs k b u):=by
 have e:?hW=?s6:=by
  rw[cE,(r.val k).isSome_eq,Option.isSome_map]
 unfold Mw storedH;rw[e];by_cases q:?s6=true
 . rw[?r q,?r q];exact ?u9
 . rw[?o q,?o q];exact ?r8 r ⟨rfl,hb,ry⟩
theorem KT.keeps{H H':Hp}[?i1](ht:∀b ys,H b=?c (?j ys)->H' b=?c (?j ys)):KT H' kvs xs :=
 Paired.mapP r fun _ _ z=>⟨z.1,ht _ _ z.2.1,z.2.2⟩
section
variable[?G]{H:Hp}{h:Heap}[?aE]
theorem SV{u:HO}[?d4](e:Rd H a u):?AI u:=e.ok ok
theorem z8[?V][?d4][?n5]:?vC :=
 show ?AI ?X from SV ok e
theorem dU[?V][?d4][?d1]:?vC:=z8 ok (?N e)
theorem FP{ks:?c1}[?d4](e:H a=?c (?j (ks.map kV))):?wD h ks a:=by
 obtain⟨_,its,r,o,h1,h2,_,n,h3⟩:=(show ?AI (?j (ks.map kV)) from ok a _ e)
 exact⟨o,?fR,n,h1,h2,h3,by simpa using v6 r⟩
theorem NT{kvs:?dI}[?d4](e:?lC):?eB/\?cN ∧
 ?tF:=by
 obtain⟨z,y,xs,r,o,es,ep,h1,h2,h3,h4,h5⟩:=(show ?AI (.dT kvs) from SV ok e)
 refine⟨z,y,xs,r,o,es,ep,h1,h2,h3,h4,fun x hx=>?_,h5⟩
 have all:∀{l:?dI}{m:?kV},KT H l m->∀x∈m,?wD h x.1 x.2.1:=by
  intro l m q
  induction q with
  | nil=>intro x hx;exact nomatch hx
  | @cons p q ps qs hq t ih =>
    intro x hx;rcases ?mA hx with e | hx
    . subst e;exact FP ok (by rw[←hq.1];exact hq.2.1)
    . exact ih x hx
 exact all r x hx
theorem Ag5{kvs:?dI}[?d4](e:H a=?c (.dT kvs)):?eB/\?cN ∧
 ?tF:=NT ok (?N e)
universe e9
def DGet(H:Hp)(a:Addr)(y:V)(r:?c7):Prop :=
 (∃kvs k,?dB/\y=kV k/\r=?b5)\/∃kvs k b,?lC/\y=?P/\?k2/\r=?b5
def xX(H:Hp)(a:Addr)(y v:V)(H':Hp):Prop :=
 (∃kvs k,?hK/\y=kV k/\?rB/\H'=?BC a (.dK (?iO))) ∨
 ∃kvs k b,H a=?c (.dT kvs)/\y=?P/\?k2/\?rB/\H'=?BC a (.dT (?iO))
section
variable[?aS]{y v:V}{u r:Value}{o:?c7}[?aC]
theorem Bk.big[?H]:?z6 sysModules:=by
 have h:?z6 mainGlobals:=(I.mod.glob.keeps I.bk).lt;exact qt4 ?R h
theorem S0{h':Heap}{t':Nat}{ob:HO}[?H](mu:Mut (H a))(hs:?dK a ?y h')(he:?vH)(new:?b1 ?bJ X.w (?BC a ob) h' a ob) :
 ?zA (?BC a ob) ?oS :=
 I.write (x:=a) (e:=a) mu (?N rfl) (fun b q hb z=>(hs.2 b hb).trans z) he new
theorem Uj[?G]{H':Hp}{h':Heap}[?V][?n0](z:?eB)(hd:?cN)(rel:?d0)(dd:?o7 ?cY a vs) :
 ?b1 P w H' h' a ?X:=⟨z,hd,vs,rel,dd⟩
theorem kM{H':Hp}{Q:?vO}(hu:?oR)[?H](g:xX H a y v H')(ry:?gV)(rv:?J v r)(h:∀s',?qM->Q () s') :
 ?z8 ?bN (setItem ?aF u r):=by
 rcases g with⟨kvs,k,e,ey,l,eH⟩|⟨kvs,k,b,e,ey,eb,l,eH⟩
 . subst ey eH;ext i8;have hz:?AB vs.length:=?fC
   ext y2
   refine wpAny_setItem_pairs (hsz:=hz) ?eD dd ?iU;ext mI
   exact S0 I ?gC hs he (Uj hl hd (rel.put k rv) FZ)
 . subst ey eH;cases (show u=?aY b from ry);obtain⟨z,hd,xs,rel,dd⟩:=Ag5 ?L e;have hz:?AB xs.length:=by rw[←?vY rel];exact z
   ext y2
   refine wpAny_setItem_heap (hsz:=hz) (tupleKind_room_in1 hu) (?t1) dd ?iU;obtain⟨q,es,ep,hq,h2,h3,h4,_,h5⟩:=FZ;refine S0 I ?gC hs ?q6 ⟨hl,hd,_,(rel.put k eb rv).keeps fun c ys ec=>?_,q,es,ep,hq,h2,h3,h4,h5⟩;rw[Al (Ep ec e (fun z=>nomatch z))];exact ec
universe e9
section
variable[?aS][?V]{k:Key}{u:Value}[?aC]
theorem yM{Q:?vO}[?H][?d1][?nA](l:?nE=true)(h:∀s',?t9->Q () s') :
 ?z8 ?bN (delItem ?aF u):=by
 ext i8
 refine wpAny_delItem_slot ?bV ?R ?qQ
  (?cV ?qQ ?bV PySem.F.entry_dict_delitem (PySem.F.args_dict_delitem_2 _ _) (meets_dict_delitem_pairs ?aG a ?eD) ⟨vs,dd,?fC,by rw[←(rel.val k).isSome_eq];exact l,?iU⟩)
 ext mI
 ext xM
theorem Ag6{v:V}{more:?f3}[?aT][?H][?d1][?nA](l:?b5=?aX)(hm:more=[]\/∃x,more=[x])
 (h:∀w' s',?t9->?J v w'->Q w' s'):?z8 ?bN (?bF ?sE (?tZ)):=by
 ext i8;obtain⟨w',hw,rw'⟩:=N1.some_of (v:=v) (o:=?iR) (?B0 k)
 have hp:?wB:=by
  cases k with
  | inl i=>ext y3
  | inr x=>ext y4
 have ha:argsOk ?uB ⟨?tZ,[]⟩:=by
  rcases hm with q|⟨x,q⟩
  . subst q;exact PySem.F.args_dict_pop_2 _ _
  . subst q;exact ?tH
 refine ?cV qt1 ?bV ?sV ha (meets_dict_pop_there ?aG a ?eD more hm hp)
  ⟨vs,w',dd,?fC,hw,fun h' FZ hs=>h w' _ ?_ rw'⟩
 ext mI
 ext xM
theorem XF{r:Value}[?aT][?H][?d1][?nA](l:?tS)(h:∀s',?sX->Q r s') :
 ?z8 ?bN (?bF ?sE ?uT):=by
 ext i8;have hn:?iR=none:=N1.none_of (?B0 k)
 have hp:?wB:=by
  cases k with
  | inl i=>ext y3
  | inr x=>ext y4
 exact ?cV qt1 ?bV ?sV (?tH) (meets_dict_pop_default ?aG a ?eD hd hp r) ⟨vs,dd,hn,h _ (I.tok _)⟩
universe e9
inductive IsDPut(D:Ends)(σ:St)(v:V)(x:V)(y:V)(H3:Hp):Prop
 | mk:∀a H4,(x=?u)->(xX H3 a y v H4)->(D.nx σ H4)->?qX
def zN(td ty tv:TE):TS:=fun D σ H=>tv σ H fun v H1=>td σ H1 fun x H2=>ty σ H2 fun y H3=>?qX
section
variable{X:Cx}{o i e value:Expr}{pos pos' tpos:Pos}{td ty tv:TE}
theorem pZ(hu:?v2)(ho:?oK)(hi:PE X i ty)(hv:?oH)(hs:?B1 ?w9) :
 PS X (.Assign [?w9] ?eE pos) (zN td ty tv):=by
 intro Ac s σ H D I h;refine wpAny_Assign_Subscript (Dk (?BF hv) fun r s1 ⟨v,H1,I1,rv,q1⟩=>Dk (?zS ho) fun u s2 ⟨x,H2,I2,rx,q2⟩=>Dk (?zR hi) fun iv s3 _z=>?_) hs;obtain⟨y,H3,I3,ry,a,H4,ex,g,q3⟩:=_z;subst ex;obtain rfl:u=?aY a:=rx;exact kM hu I3 g ry rv fun s4 I4=>⟨σ,H4,I4,q3⟩
universe e9
theorem dk_empty[?G]{H:Hp}(h:Heap)(hb:sysModules<h.objs.size):?b1 P w H (h.push ?uY) ?p5 (?cQ) :=
 ⟨?aH,?AF hb,[],?p,?w6 h⟩
def uX:TE:=fun _ H Q=>∀p,?F->Q ?a0 (?BC p (?cQ))
section
variable[?iN]
theorem Se:PE X (.Dict [] [] pos) uX:=fun Ac s σ H Q I h =>
 wpAny_Dict_empty ⟨?Z,_,?gG (a:=s.heap.objs.size) (o:=?cQ) (t':=s.toks) (fun _ _ q=>?A2 q) ?M (dk_empty ?y I.big),rfl,h _ (?dL ?M)⟩
universe e9
def tPairs:?eI->St->Hp->(?r1)->Prop
 | [],_,H,Q=>Q [] H
 | (tk,tv)::r,σ,H,Q=>tk σ H fun x H1=>tv σ H1 fun y H2=>?kB r σ H2 fun ps H3=>Q (?w3) H3
noncomputable abbrev VV:?A6 V V->?A6 Value Value->Prop:=?mH fun p q=>?J p.1 q.1/\?J p.2 q.2
def PPs(X:Cx)(pos:Pos)(keys:?k0)(values:?Q)(pG:?eI):Prop :=
 ∀(Ac:Bg) (s:Shared) (σ:St) (H:Hp) (Q:?r1),?oL->?kB pG σ H Q →
   ?f ?bN X.A (evalPairs (pairTrees keys ?l4 ?i pos)) (fun vs s'=>∃ps H',?qM/\VV ps vs/\Q ps H') X.xe s
theorem QA[?iN]:PPs X pos [] [] []:=fun Ac s σ H Q I h=>pairTrees_nil_walk ⟨[],H,I,?p,h⟩
theorem MB[?iN]{k v:Expr}{ks:?k0}{vs:?Q}{tk tv:TE}{pG:?eI}(hk:PE X k tk)(hv:PE X v tv)(hr:PPs X pos ks vs pG) :
 PPs X pos (?c k::ks) (v::vs) ((tk,tv)::pG):=fun Ac s σ H Q I h =>
 pairTrees_cons_walk (Dk (?BF hk) fun u s1 ⟨x,H1,I1,rx,q1⟩=>Dk (?zS hv) fun w2 s2 ?lT =>
  Dk (?zR hr) fun ws s3 ⟨ps,H3,I3,rel,q3⟩=>⟨?w3,H3,I3,?D ⟨rx,ry⟩ rel,q3⟩)
def Hu(kvs more:?W):?W:=more.foldl (fun acc kv=>Mw acc ?E kv.2) kvs
theorem KV.merge:∀{more:?W}{rs:?fN}[?V][?n0],KV more rs->?d0->KV (?j1) (merged vs rs):=by
 intro more rs kvs vs r;unfold KV at r
 induction r generalizing kvs vs with
 | nil=>intro q;exact q
 | @cons p q ps qs h t ih =>
   intro r0
   have e:KV ?g9 (?l9 vs q.1 q.2):=by
    have:=r0.put p.1 h.2;rw[←h.1];exact this
   exact ih e
theorem La:∀(more kvs:?W),(?j1).length<=kvs.length+more.length
 | [],kvs=>by show kvs.length<=kvs.length+0;omega
 | p::r,kvs=>by
   have h1:=La r ?g9;have h2:=Ov kvs p.1 p.2;show(Hu ?g9 r).length<=_;rw[qc8];omega
theorem Yv[?G]:∀[?V]{ws:?A6 Value Value},VV (?aI ?v9) ws->∃rs,Carries ?cY ws rs/\KV kvs rs
 | [],_,r=>by rw[qt5]at r;cases r;exact⟨[],True.intro,?p⟩
 | p::kvs,_,r=>by
   rw[qd5]at r;cases r with
   | @cons a b as bs h t =>
     obtain⟨rs,c,q⟩:=Yv (P:=P) (w:=w) t;obtain⟨b1,b2⟩:=b;exact⟨(p.1,b2)::rs,⟨?fG h.1,rfl,c⟩,?D ⟨rfl,h.2⟩ q⟩
def zI(pG:?eI):TE:=fun σ H Q=>∀p,?F->?kB pG σ (?BC p (?cQ)) fun ps H2=>H2 p=?c (?cQ)/\∃kvs:?W,ps=?aI (?v9)/\kvs.length<=15/\Q ?a0 (?AZ H2 p)
theorem qH[?iN]{keys:?k0}{values:?Q}{pG:?eI}(h:PPs X pos keys ?l4 pG)(hall:keys.all (·.isSome)=true)(hl:keys.length=values.length)(h0:keys≠[])
 (h15:keys.length<=15):PE X (.Dict keys ?l4 pos) (zI pG):=by
 intro Ac s σ H Q I q;have hn:=?dL (qa1 ?k);have I1:=?gG (a:=s.heap.objs.size) (o:=?cQ) (h':=?hB) (t':=s.toks) (fun _ _ q=>?A2 q) ?M (dk_empty ?y I.big);refine wpAny_Dict_walk (knd:=?kT) hall hl h0 h15 (Dk (h Ac _ σ _ _ I1 (q _ hn)) fun ws s2 _z=>?_);obtain⟨ps,H2,I2,rel,e,kvs,ep,lk,q2⟩:=_z;subst ep;obtain⟨rs,c,rk⟩:=Yv (P:=X.prog) (w:=X.w) rel;obtain⟨z,hd,vs0,r0,dd⟩:=dU I2.hok e;cases r0;refine⟨rs,c,dd,fun h' FZ hs=>⟨?Z,_,?_,rfl,q2⟩⟩
 have hz:?r2:=by
  have h1:=?uV;rw[qk8]at h1;rw[sizeLine_eq];omega
 have he:∃q,?e3 ?k=?c q:=?r0
 exact S0 I2 ?gC hs he (Uj hz hd (rk.merge ?p) FZ)
structure M2(X:Cx)(o:Expr)(m:Str)(apos:Pos)(e f:Expr)(cpos:Pos):Prop where
 base:?jA o m ?i (?gF)=?gF
 few:((?vL).all (fun x=>!x.1)&&(?l0 ?bR (keywordEach [] ?i)).all (fun x=>x.1.isSome)
  && ?w ((?gP:?Q).length+([]:?rS).length+(if ([]:?rS).isEmpty then 0 else 1)<30))=true
 line:?s1
 trees:?vL=[?mC,(?b6,?B8 f)]
def IsD(H:Hp)(a:Addr):Prop:=(∃kvs,?dB)\/∃kvs,?lC
theorem nG[?aS][?H](d:IsD H a) :
 ?m1 ?aF ?c2/\(∀b,?aY a=?P->∃ob,?sZ/\ob.dict=none)/\?cN:=by
 rcases d with⟨kvs,e⟩|⟨kvs,e⟩
 . obtain⟨_,hd,vs,_,dd⟩:=?eM;ext xL
 . obtain⟨_,hd,xs,_,dd⟩:=?t7;ext xL
section
variable[?aS]{y d:V}{u r:Value}{o:?c7}[?aC]
theorem xH[?aT](hu:?oR)[?H](g:DGet H a y o)(ry:?gV)(rd:?J d r)(h:∀w' s',?sX->?J (o.getD d) w'->Q w' s') :
 ?z8 ?bN (?bF (?dC "dict.get") ?uT):=by
 rcases g with⟨kvs,k,e,ey,l⟩|⟨kvs,k,b,e,ey,eb,l⟩
 . subst ey;obtain⟨z,hd,vs,rel,dd⟩:=?eM;refine ?cV qt2 ?bV ?wM (?AV _) (meets_dict_get_default ?aG a ?eD hd r) ⟨_,dd.mapOf,?qJ⟩;rw[l];exact(rel.val k).getD rd
 . subst ey;cases (show u=?aY b from ry);obtain⟨z,hd,xs,rel,dd⟩:=?t7;refine ?cV qt2 ?bV ?wM (?AV _) (meetsH_dict_get_default (?jD ?aG) a b hd r) ⟨tupleKind_room_in1 hu,k,xs,?t1,dd,?qJ⟩;rw[l];exact(rel.val k).getD rd
universe e9
inductive ItDGet2(ty:TE)(tx:TE)(σ:St)(Q:VK)(x:V)(H1:Hp):Prop
 | mk:∀a,(x=?u)->(?pM)->(ty σ H1 fun y H2=>tx σ H2 fun z H3=>∃o,DGet H3 a y o/\Q (o.getD z) H3)->?u3
def UX(td ty tx:TE):TE:=fun σ H Q=>td σ H fun x H1=>?u3
def UW(td ty tx:TE):TE:=fun σ H Q=>td σ H fun x H1=>∃a,x=?u/\?pM/\ty σ H1 fun y H2=>tx σ H2 fun z H3=>∃kvs k,H3 a=?c ?X/\y=kV k ∧
 (∀v,?b5=?aX->Q v (upd H3 a (.dK (?f9))))/\(?tS->Q z H3)
section
variable{X:Cx}{o e f:Expr}{apos cpos:Pos}{td ty tx:TE}
theorem cV(hu:?v2)[?yQ](m:M2 X o "get" ?a3 e f ?bR):?A7 "get" UX:=by
 ext iJ;refine ?zD qt2 PySem.F.type_dict_get;ext xG
 refine qp4 rfl (qw1 (qm4 (Dk (?zS he) fun iv s2 ?lT =>
  ?B7 ⟨z,H3,I3,rz,ov,g,q3⟩)))
 exact xH hu I3 g ry rz fun w' s4 I4 rw'=>⟨_,H3,I4,rw',q3⟩
theorem MG[?yQ](m:M2 X o "pop" ?a3 e f ?bR):?A7 "pop" UW:=by
 ext iJ;refine ?zD qt1 PySem.F.type_dict_pop;ext xG
 refine qp4 rfl (qw1 (qm4 (Dk (?zS he) fun iv s2 ?lT =>
  ?B7 ⟨z,H3,I3,rz,kvs,k,ea,ey,q3,q4⟩)))
 subst ey;cases l:Ny kvs k with
 | some v=>exact Ag6 I3 ea ry l (?aM ⟨fv,rfl⟩) fun w' s4 I4 rw'=>⟨v,_,I4,rw',q3 v l⟩
 | none=>exact XF I3 ea ry l fun s4 I4=>⟨z,H3,I4,rz,q4 l⟩
universe e9
section
variable[?aS][?V][?aC]
theorem nW[?aT][?H][?n5](h:∀p s',?F->?zA (?BC p ?X) s'->Q ?a0 s'):?z8 ?bN (?bF (?v ?c2) ?eC):=by
 obtain⟨z,hd,vs,rel,dd⟩:=?eM;refine kt_call_dict hd dd (?fC) fun h' FZ hs=>?_;refine h _ _ (?dL ?M) (?gG (a:=s.heap.objs.size) (o:=?f6) (t':=s.toks) (fun b q hq=>?_) ?M (Uj z (?AF I.big) rel FZ));exact(hs.2 b (?AU hq)).trans (?A2 hq)
universe e9
section
variable[?aS]{y:V}{u:Value}[?aC]
universe e9
section
variable{X:Cx}
universe e9
universe L2
namespace L2
open PySem PySem.Spec PyProof.Rows PySem.SeqAt
def cK[?U]:?W:=?g5 fun p=>(Sum.inl p.1,?l p.2)
def Dg[?U](k:Int):?dR Int:=(ms.find? ?h1).map (·.2)
universe L2
namespace L2
open PySem PySem.Spec PyProof.Rows
section
variable[?eX][?aC]
theorem AW:typeLookup (?gZ) ?lQ=pure none:=am_miss_of_fast ?fV
theorem Xz{s:Shared}[?aE]{xs:?cD}{k:Nat}[?mU]
 (hx:?eF a=?c { cls:=?gZ,data:=?aN xs k }) (hA:?jG)
 (h:∀h' tk,(∀b o,?q1)->Q none ?f0) :
 ?z8 ?aW (getAttr? ?aF ?lQ):=by
 obtain⟨hp,g,d,tk,os⟩:=s;have hT:∀tk',(⟨hp,g,d,tk',os⟩:Shared).TypeIs ?aF ?cU:=fun _=>(?A1 hx)
 have f1:=sub_AttributeError;have f3:=F.slot_list_getattribute.lookup;have f4:=F.slot_list_getattribute.bind ?aF;have f5:=am_list_getattr_none;unfold getAttr? getAttrBy? getAttrBy
 repeat (any_goals (first | assumption | exact hT _ | ((with_reducible show ?z2 (?bF (Value.builtin "list.__getattribute__") _ _) _);refine ?rY F.slot_list_getattribute (hT _) am_entry_list_getattribute (F.args_list_getattribute_2 _ _) (meets_getattribute_miss_list a xs k #[] ?lQ _ AW (?bM)) ⟨hx,hA,fun h' tk' e hx'=>?_⟩) | wp_step))
 obtain⟨t',u',he⟩:=hx'.there;show ?f _ _ (getattributeRaised _ _ _ _ _ _ _) _ _ _;unfold getattributeRaised
 repeat (any_goals (first | assumption | wp_step))
 exact h _ _ hx'.keeps
theorem Ko:plainId ?l2=true:=?bM
theorem Vb:?rX table ?l2=?c Builtin.«dict.update.loop»:=entryFor_of_fast ?fV
variable{KT:Type}[?r6 KT]{knd:KeyKind prog w KT}
def Ai9(d it:Addr)(h0 h:Heap):Prop:=∀b o,b≠d->?gX->h0.get? b=?q->h.get? b=?q
theorem kK(hh:?jG){d it l:Addr}{items:?cD}{prs:?pN}(hl:prs.length=items.size)(ndi:d≠it)(nld:l≠d)(nli:l≠it){h0:Heap}(hL:h0.IsList l items)
 (hP:∀(i:Nat) (x:Value),?nX=?b7->∃(p:?uQ) (t:Addr) (key:Value),?tW/\x=?d6/\t≠d/\t≠it/\h0.IsTuple t ?j2/\knd.is p.1 key=true) {R:Result->?dV} :
 ∀(n i:Nat) (s:Shared) (acc:?pN),prs.length-i=n->i<=prs.length->acc.length+n<=sizeLine->s.heap.DictOf knd d acc->s.heap.IsListIter it l i->Ai9 d it h0 ?y →
   (∀h' tk,?o7 knd d (merged acc (?gR i))->Ai9 d it h0 h'->R (.ok (.ret ?A)) ?f0) →
   codeAny ?aW A (?dC ?l2 ⟨[?e d,?e it,?m6 i,?A],[]⟩) R s:=by
 intro n
 induction n with
 | zero =>
   ext xC
   have hx:?nX=none:=?iP
   ext yN;refine qa7 (wpAny_pyNext_list_end hh hit hLs hx fun h' he=>?_);show ?z2 (Builtin.Dict.addKeywords d []>>=_) _;refine qa7 ?tD;have e:?gR i=[]:=?iP
   have k':=k h' s.toks (by rw[e];exact hd.extBut he ndi) fun b o n1 n2 q=>he b o n2 (hb b o n1 n2 q);exact k'
 | succ n ih =>
   ext xC
   have hlt:i<items.size:=O9m
   obtain⟨p,t,key,hp,ex,ntd,nti,hT,hkey⟩:=hP i ?rE (?gU);ext yN;refine qa7 (wpAny_pyNext_list_item hit hLs (x:=?rE) (?gU) fun h1 Ax4 hs1=>?_);rw[ex];have hT1:h1.IsTuple t ?j2:=let ?sU:=hT;⟨o,(hs1.2 t nti).trans (hb _ _ ntd nti ho),r⟩
   have hd1:?uR knd d acc:=hd.sameBut hs1 ndi;obtain⟨o,ho,hc,m,hdat⟩:=hT1;refine ?AC qq8;refine ?AC wpAny_tryCatch;unfold Builtin.Dict.pairItems;refine qa7 (?rI (show((?o2:Shared).TypeIs (?d6) "tuple") from⟨o,ho,hc⟩) ?_);rw[?r ?R];refine qa7 (qm1 ho hdat ?gD);show ?z2 (holding [key,p.2] (dictSet d key p.2)) _;refine qq8 (wpAny_dictSet_pairs (s:=?o2) hkey hd1 (fun h2 hd2 hs2=>?_) O9m);refine ?AN _
   have e2:?gR i=p::?gR ?s:=by
    rw[List.drop_eq_getElem_cons ?g]
    congr 1
    rw[qa0 ?g]at hp;exact qd3 hp
   have hl2:=stored_length_le acc p.1 p.2;refine ih ?s { s with heap:=h2,toks:=?wL } (?l9 acc p.1 p.2) O9m O9m O9m hd2 ?_ (fun b o' n1 n2 q=>?_) (fun h' tk hd' hb'=>k h' tk (by rw[e2];exact hd') hb')
   . obtain⟨oi,hoi,ri⟩:=Ax4;exact⟨oi,(hs2.2 it (?f4 ndi)).trans hoi,ri⟩
   . exact(hs2.2 b n1).trans ((hs1.2 b n2).trans (hb b o' n1 n2 q))
universe e9
theorem vals_pair{x y:V}{us:?f3}(r:Vals [x,y] us):∃a b,us=?dM/\?J x a/\?J y b:=by
 cases r with
 | cons h1 r =>
   cases r with
   | cons h2 r =>
     cases r;exact⟨_,_,rfl,h1,h2⟩
theorem cW[?G]{H:Hp}{h:Heap}(hok:?qZ):∀[?yU],?vW->(?zG t) →
 ∃prs:?fN,KV kvs prs/\prs.length=ts.length/\∀(i:Nat) t,?eZ->∃(p:?t5) (key:Value),?tW/\h.IsTuple t ?j2/\?p1 p.1 key=true
 | [],[],_,_=>⟨[],?p,rfl,fun i t e=>?iW⟩
 | [],_::_,hl,_=>?pF
 | _::_,[],hl,_=>?pF
 | t::ts,kv::kvs,hl,hk=>by
   obtain⟨prs,h1,h2,h3⟩:=cW hok ts kvs (by simpa using hl) fun i t e=>by
    obtain⟨kv',e1,e2⟩:=hk ?s t ?fD;exact⟨kv',?eR,e2⟩
   obtain⟨kv',e1,e2⟩:=hk 0 t rfl;have e1':kv=kv':=?eR
   subst e1';obtain⟨_,its,rv,o,ho,hc,hdn,n,hd⟩:=hok t _ e2;obtain⟨a,b,rfl,ra,rb⟩:=vals_pair rv;refine⟨(kv.1,b)::prs,.cons ⟨rfl,rb⟩ h1,by simp[h2],fun i t' e=>?_⟩;cases i with
   | zero =>
     have:t=t':=?e6
     subst this;exact⟨(?E,b),a,rfl,⟨o,ho,hc,n,hd⟩,?fG ra⟩
   | succ i =>
     obtain⟨p,key,q1,q2,q3⟩:=h3 i t' ?fD;exact⟨p,key,by simpa using q1,q2,q3⟩
inductive iV[?n1]:Prop
 | mk:∀(p:Addr) [?yU],(xs=[?bC])->(H p=?A9 (ts.map ?gE))->(?vW)->((?zG t))->(∀D,?hR->Q ?cB (?AZ H D))->?q3
def VE:?gT:=fun xs H Q=>?q3
theorem Yw{X:Cx}(hc:?pD):E8 X (?v ?c2) VE:=by
 intro Ac s σ H xs us Q I r h;obtain⟨l,ts,kvs,rfl,hl,hlen,hk,q⟩:=h;obtain⟨u,rfl,ru⟩:=P6 r;cases ru;have hh:X.A.handled=none:=?nY;obtain⟨hz,its,n,rv,ho⟩:=?L l _ hl;rw[qa2]at hz;have hil:its.length=ts.length:=by rw[←rv.length,qa2]
 obtain⟨prs,hkv,hpl,hP⟩:=cW ?L ts kvs hlen hk
 have at_:∀(i:Nat) (x:Value),its.toArray[i]?=?b7->∃t,?eZ/\x=?d6:=fun i x e=>by
  have e':its[i]?=?b7:=?e6
  have hlt:i<its.length:=(?dS e').1;have hb:?BE ts (ts[i]'(O9m)):=?jH
  obtain⟨u,hu,ru⟩:=rv.get (i:=i) (x:=?gE (ts[i]'(O9m))) (by rw[qa9,hb];rfl);rw[e']at hu;cases hu;cases ru;exact(?A1 hb)
 refine callType_codes (Q₁:=fun obj s₁=>obj=?Z/\s₁=?sL) PySem.F.kt_called_dict (PySem.F.kt_typeCall_dict_1 _) PySem.F.entry_dict_init (kt_code_dict_new _ ?vM) ?_;rintro obj s₁ ⟨rfl,rfl⟩;have hnew:(?hB).DictOf ?aG ?k []:=?w6 ?y;refine⟨?sB,PySem.F.args_dict_init_2 _ _,?_⟩;unfold Builtin.«dict.__init__»;refine ?dJ;unfold Builtin.Dict.selfAndRest;refine qa7 (wpAny_notOrdered_dict ?sB ?_);show ?z2 (pure (?k,[?aY l])) _;refine ?h0;show ?f _ _ (Builtin.Dict.updateFrom "dict.__init__" ?k (?e l) [] ?A) _ _ _;unfold Builtin.Dict.updateFrom;have ho1:(?hB).get? l=?c { cls:=?gZ,data:=?aN ?fR n }:=?A2 ho;refine qa7 (?rI (show((?sL:Shared).TypeIs (?e l) ?cU) from(?A1 ho1)) ?_);rw[?r ?R];refine qa7 (Xz ho1 hh fun h1 tk hk1=>?_);rw[?r (show(none:?dE).isNone=true from rfl)];refine ?AC ?kS;have hl1:h1.IsList l ?fR:=⟨_,?vJ,rfl,n,rfl⟩
 refine qa7 (qs9 hl1 ?_);refine ?AN _;have lt0:?z6 l:=qb2 ho;have nD:∀b o,?d5->?kH:=fun b o e=>?oE;have up:∀b o,?d5->h1.get? b=?q:=fun b o e=>hk1 _ _ (?A2 e);have nI:∀b o,?d5->b≠h1.objs.size:=fun b o e=>?AU (up b o e);obtain⟨oD,esD,epD,hoD,rD⟩:=id hnew;have Er:?uR ?aG ?k []:=⟨oD,esD,epD,?pH,rD⟩
 have ndi:s.heap.objs.size≠h1.objs.size:=?AU (?pH)
 refine kK (knd:=?kT) (show X.A.in1.handled=none from hh) (prs:=prs) (items:=its.toArray) (l:=l) (d:=s.heap.objs.size) (it:=h1.objs.size) (h0:=h1.push { cls:=?v "list_iterator",data:=?b3 #[?e l,?jW] }) ?dW ndi (nD _ _ ho) (nI _ _ ho)
  ⟨_,?A2 (?vJ),rfl,n,rfl⟩ (fun i x e=>?_) prs.length 0 _ [] O9m O9m ?_ (Er.push _) ?qV (fun b o _ _ e=>e) (fun h' tk' hd' hb'=>?_)
 . obtain⟨t,e1,rfl⟩:=at_ i x e;obtain⟨p,key,e2,⟨o,ho',r'⟩,e4⟩:=hP i t e1;exact⟨p,t,key,e2,rfl,nD _ _ ho',nI _ _ ho',⟨o,?A2 (up _ _ ho'),r'⟩,e4⟩
 . have e0:([]:?fN).length=0:=rfl;omega
 . refine⟨rfl,?Z,?AZ H ?k,?_,rfl,q _ (?dL ?M)⟩
   have hzz:?r2:=by
    have h1:=?uV;rw[qk8]at h1;omega
   refine ?gG (a:=s.heap.objs.size) (o:=.dK (?dO)) (t':=tk') (fun b o e=>hb' b o (nD _ _ e) (nI _ _ e) (?A2 (up _ _ e))) ?M (Uj hzz (?AF I.big) (hkv.merge ?p) ?_);simpa using hd'
theorem M3:∀(more kvs:?W),((?wV).map (·.1)).Nodup->?j1=?wV
 | [],kvs,_=>by simp[Hu]
 | p::more,kvs,h=>by
   have hnot:(kvs.any fun kv=>?w (?E=p.1))=false:=by
    rw[List.any_eq_false];intro kv hkv hd;have e:?E=p.1:=by simpa using hd
    rw[qb1,qv8]at h;exact h.2.2 ?E (qn1 hkv) p.1 ?n e
   have e:?t0=?t4:=by
    unfold Mw;rw[?o (by rw[hnot];decide)]
   show Hu ?g9 more=_;rw[e,M3 more (?t4) (by simpa using h)];simp
universe L2
namespace L2
open PySem PySem.Spec PyProof.Rows PySem.SeqAt
universe L2
namespace L2
open PySem PySem.Spec PyProof.Rows
section
variable[?aS][?V]
theorem Bk.freeze[?H][?d1]:∃o,?zA (?hO) s:=by
 obtain⟨z,y,vs,r,o,es,ep,ho,c⟩:=id (?vA);refine⟨o,?_⟩;have ne:∀b u,?hS->u≠?f6->b≠a:=?uF
 have up:∀b u,?hS->u≠?f6->upd H a (?eN) b=?e0:=?s2
 refine I.step (g':=s.gens) (t':=s.toks) (d':=s.drawn) (h':=s.heap) (H':=?hO) (ch:=[]) (fun _ q=>nomatch q) (fun b ob _ _ _ q _=>q) (fun b ob _ _ _ q _=>⟨?vI,q⟩) (fun b ob _ q n=>?rQ) (fun b ob _ q=>⟨ob,q⟩)
  (fun b xs q=>?lI) (fun b ob u q=>?lI) (fun b ps q=>⟨#[],by rw[?lI];simp⟩) (fun m q=>q) (?qP) ?bE
 by_cases hb:b=a
 . subst hb;rw[Ab]at q;cases q;exact⟨ho,(?nV).stay (fun _ _ _ q=>q) (fun c q=>?hD) ?jU⟩
 . rw[Al hb]at q;ext xI
theorem Bk.thaw{o:Obj}[?H][?yZ](hb:?nW):?zA (?BC a ?X) s:=by
 have ne:∀b u,?hS->u≠?eN->b≠a:=?uF
 have up:∀b u,?hS->u≠?eN->?wQ=?e0:=?s2
 have no:∀b,H b=none->?wQ=none:=fun b n=>?rQ
 refine⟨I.ok,I.os,?bE,⟨I.base.keep,I.base.slot,fun b ob q n x=>no b (I.base.free b ob q n x),I.base.there,fun b xs q=>up b _ (I.base.tups b xs q) ?gB,fun b ob u q=>?_,fun b ps q=>?_⟩,I.loc,I.cell,no _ I.free,fun x c q=>no _ (I.freeC x c q),fun p hp=>?_,?qP,I.len⟩
 . have hne:b≠a:=fun z=>hb ob u (z▸q);rw[Al hne];exact ?nB b ob u q
 . obtain⟨m,q'⟩:=I.base.tbls b ps q;exact⟨m,up b _ q' ?gB⟩
 . obtain⟨p1,p2,p3⟩:=I.pin p hp;exact⟨p1,no _ p2,p3⟩
 . by_cases hba:b=a
   . subst hba;rw[Ab]at q;cases q;obtain⟨_,q'⟩:=?nV;exact q'.stay (fun _ _ _ q=>q) (fun c q=>?hD) ?jU
   . rw[Al hba]at q;ext xI
theorem Bk.notfrz[?H][?d1]:?nW:=fun ob u q=>by
 have:=?nB a ob u q;rw[e]at this;cases this
theorem Bk.nodupK[?H][?n5]:(?aI (·.1)).Nodup:=by
 obtain⟨z,hd,vs,rel,o,es,ep,_,_,_,_,_,hn⟩:=?eM;rw[rel.keys];exact hn
universe e9
def tFrz(t:TE):TE:=fun σ H Q=>t σ H Q\/∃(a:Addr) (kvs:?W),?hK/\((?aI (·.1)).Nodup->∀o:Obj,t σ (?hO) fun v H'=>?e4/\Q v ?dF)
def Ar2(t:TS):TS:=fun D σ H=>t D σ H\/∃(a:Addr) (kvs:?W),?hK/\((?aI (·.1)).Nodup->∀o:Obj,t ⟨?zZ D.nx,fun v H'=>?e4/\D.rt v ?dF,
 ?zZ D.bk,?zZ D.ct⟩ σ (?hO))
theorem mG{X:Cx}{e:Expr}{t:TE}(h:PE X e t):PE X e (tFrz t):=by
 intro Ac s σ H Q I hw;rcases hw with hw|⟨a,kvs,ea,hw⟩
 . exact h Ac s σ H Q I hw
 . obtain⟨o,I'⟩:=I.freeze ea;have hb:=I.notfrz ea;refine Dk (h Ac s σ _ _ I' (hw (I.nodupK (?N ea)) o)) fun u s' ⟨v,H',I2,r,e2,q⟩=>⟨v,_,?lV,r,q⟩
theorem fD{X:Cx}{st:Stmt}{t:TS}(h:PS X st t):PS X st (Ar2 t):=by
 intro Ac s σ H D I hw;rcases hw with hw|⟨a,kvs,ea,hw⟩
 . exact h Ac s σ H D I hw
 . obtain⟨o,I'⟩:=I.freeze ea;have hb:=I.notfrz ea;refine Dk (h Ac s σ _ _ I' (hw (I.nodupK (.inl ea)) o)) fun f s' hq=>?_;cases f with
   | next=>ext mJ
   | brk=>ext mJ
   | cont=>ext mJ
   | ret u=>obtain⟨v,σ',H',I2,r,e2,q⟩:=hq;exact⟨v,σ',_,?lV,r,q⟩
theorem fU[?aS][?V]{o:Obj}[?H][?yZ] :
 ?eF a=?q/\?cN/\?eB/\∃vs es ep,?d0/\?w7/\es.size=kvs.length/\o.ExactDict/\s.heap.DictAt ?aG a vs ep:=by
 obtain⟨ho,z,y,vs,r,o',es,ep,ho',ex,hd,hk,hp,hn⟩:=?vA;rw[ho]at ho';cases ho';refine⟨ho,y,z,vs,es,ep,r,hd,?_,ex,⟨o,es,ho,ex,hd,hk,hp,hn⟩⟩;rw[r.length,←hp.length];simp
theorem KV.getV:∀[?V][?n0]{i:Nat}{k:Key}{v:V},?d0->?dP->∃u,?BE vs (k,u)/\?J v u
 | _,_,i,k,v,?p,e=>?iW
 | _,_,0,k,v,?D (b:=q) r t,e=>by
   simp only[qs2,Option.some.injEq]at e;subst e;obtain⟨k',u⟩:=q;have e1:k=k':=r.1;subst e1;exact⟨u,?T,r.2⟩
 | _,_,i+1,k,v,?D r t,e=>by
   obtain⟨u,e1,e2⟩:=KV.getV (i:=i) t ?fD;exact⟨u,?eR,e2⟩
theorem Ac1[?G]{k:Key}{u:Value}(h:?vG):?jS:=by
 rcases Dp h with⟨i,t,rfl,rfl⟩|⟨x,t,rfl,rfl⟩
 . exact ?pI
 . exact ?pI
def XS(d:Addr)(o:Obj):It :=
 ⟨fun i H=>∃kvs k v,?dA/\?dP,
  fun i H x H'=>∃p k v,?F/\x=?bC/\H'=?l3/\∀kvs,?dA->?dP,
  fun i H=>∃kvs,?dA/\kvs.length<=i⟩
theorem Vp[?eX][?aC]{s:Shared}{it d:Addr}{i n ep:Nat}{ok ov:Value}[?aT](hit:?wZ ?y it d i n ep ok ov)(h:Q ?eL s):?z8 ?aW (pyIter ?eL):=by
 have hT:?m1 ?eL ?tG:=(?A1 hit)
 refine wpAny_pyIter_slot hT qu4 (qk3 qu4 hT (entryFor_alias (id':="dict_keyiterator.__iter__") ?fV rfl (?bM) ?fV:?rX table "dict_itemiterator.__iter__"=?c Builtin.«dict_keyiterator.__iter__») ?_ (PySem.F.args_dict_itemiterator_iter_1 _));show ?z2 (ret ?eL) s;exact qc1 ⟨_,rfl,?tG,_,hT,PySem.F.slot_dict_itemiterator_next.lookup,h⟩
theorem ES[?G][?I]{tes:?Q}{x1:Nat}{tpos:Pos}(d it:Addr)(o:Obj){es:Array DictEntry}{ep:Nat}(hd:?w7) :
 V2 P w K (?B2 tes) (?bI) ?c6 it (fun i h=>∃ok ov,?wZ h it d i es.size ep ok ov) where
 mem:=?T
 obj:=fun i h st b hb=>by
  obtain⟨ok,ov,h1⟩:=st;ext eU
  subst z;exact⟨_,h1,?wT⟩
 keep:=fun i h h' st k=>by
  obtain⟨ok,ov,h1⟩:=st;exact⟨ok,ov,k it ?n _ h1⟩
 item:=by
  ext aB;ext mZ;obtain⟨kvs,k,v,hz,hx⟩:=hg;ext xP;obtain⟨u,hu,ru⟩:=rel.getV hx;ext yB
  have fi:=?lM;have lti:?z6 it:=qb2 hit;ext i2;rw[hn]at hit;refine wpAny_pyNext_items_item hit hm hu fun key h' hkey hout htup hsz' hk=>?_;refine⟨_,rfl,wpAny_letOwnedTupleGo_items hout ?u4⟩
  replace Nw:?dK it h' h3:=Nw
  have kk:∀b ob,b ∉ ?c6->?sZ->?gH b=?hL:=fun b ob n z=>by
   have n1:?gX:=by simpa using n
   exact ?nF (hk b ob n1 z)
  have rG:?zI key u:=?A0 lti;have Z2:∀c ob,H c=?hL->c ∉ ?c6:=fun c ob e hm=>?t3
  have Sj:∀b ob,H b=?hL->?kH:=fun b ob z=>?sK;refine⟨?Z,?wA,?_,rfl,⟨?k,k,v,?cO,rfl,rfl,fun kvs' q=>by rw[hz]at q;cases q;exact hx⟩,⟨_,_,by rw[hn];exact hen⟩,?aZ⟩
  . refine ?fU (s:=s) (h':=h3) (t':=s.toks) (H':=?wA) I (g':=s.gens) (d':=s.drawn) (ch:=?c6) (?aZ) (fun b ob _ _ hb z _=>?m2) (fun b ob _ _ hb z _=>⟨?vI,?m2⟩) (fun b ob hb z n=>?_) (fun b ob hb z=>⟨ob,?m2⟩)
     (fun b ys z=>?gA) (fun b ob w' z=>?gA) (?zY z) ?d9 (fun b w' z=>?_) ?bE
    . have f:=?jP;ext i3
    . rw[Al (?AU z)];exact n
    . obtain⟨ob,es',XE,hob,r⟩:=hm;exact⟨ob,es',XE,?AQ ob hob,r⟩
    . by_cases hb:?rK
      . subst hb;rw[Ab]at z;cases z;exact(?AG key (Ac1 hkey))
      . rw[Al hb]at z;refine ?zP w'
        ext eV
        . exact kk _ _ (?lG) q
        . ext mV
  . ext eU
    subst z;rw[Al (qc5 lti)];exact ?k4
 done:=by
  ext aB;ext mZ;obtain⟨kvs,hz,hx⟩:=hg;ext xP;ext yB
  have hl2:=rel.length;rw[hn]at hit;exact wpAny_pyNext_items_end ?cZ hit hm ?dW fun h' eb=>(?AM ?c6 (fun b ob hb z=>eb b ob ?hJ z))
 self:=fun _ _ _ _ _ st h=>by
  ext mZ;exact Vp hit h
inductive IW(R:It->?aP)(x:V)(H1:Hp):Prop
 | mk:∀d o kvs,(x=?e d)->(H1 d=?hV)->(R (?bI) H1)->?wR
def WJ(td:TE):TI:=fun σ H R=>td σ H fun x H1=>?wR
theorem Ol{X:Cx}{tes:?Q}{x1:Nat}{tpos apos cpos:Pos}{e:Expr}{td:TE}(he:PE X e td)
 (hbase:?jA e "items" ?i (?eO)=?eO:=by rfl) (hline:?s1:=by rfl):PI X (?B2 tes) (?x (?Y e "items" ?a3) [] [] ?bR) (WJ td):=by
 intro Ac s σ H R I h;refine wpAny_Call_method0_late hbase hline (Dk (?BF he) fun v s1 _z=>?_);obtain⟨x,H1,I1,r1,d,o,kvs,ex,hz,q⟩:=_z;subst ex;obtain rfl:v=?aY d:=r1;obtain⟨ho,hsys,hl,vs,es,ep,rel,hd,hsz,exd,hm⟩:=fU I1 hz;refine⟨?c2,"dict.items",qr8,?nP,PySem.F.type_dict_items,⟨o,ho,exd.1⟩,fun b e=>by cases e;exact⟨o,ho,exd.2.1⟩,qp4 rfl (PySem.evalArgs_none ?_)⟩;refine ?cV ?nP hm.dictOf.typeIs PySem.F.entry_dict_items (PySem.F.args_dict_items_1 _) (meets_dict_items ?aG d hsys) ⟨⟨vs,hm.dictOf⟩,?_⟩;have I2:?zA H1 ?qL:=?BB ?fA ?vQ;have hm2:=hm.push ?jB;refine wpAny_pyIter_items (s:=?qL) (v:=s1.heap.objs.size) (d:=d) ?qV hm2 ?_;have hsz2:?x0=?hT:=qi0 ..;refine⟨_,[_],_,?bI,H1,rfl,?BB I2.kept ?vQ,ES d _ o hd,⟨?A,?A,?_⟩,?aZ,q⟩
 . rw[hsz,rel.length];exact ?bP
 . have z:b=?x0:=?bS
   subst z;ext yK
section
variable[?i4]
theorem Yq{d:Addr}{o:Obj}[?V][?mN](hl:∀i zs τ H,?hA->?b8->?dA)
 (hs:∀i k v zs τ H p,?dP->?b8->?F->g ?a0 τ (?l3) ?tT)
 (hd:?AY ?mG):?zO (?bI) tc:=by
 refine⟨fun i m zs τ H=>m=kvs.length-i/\?hA/\?b8,?oA,?_⟩;rintro i m zs τ H ⟨rfl,hi,pp⟩;have q:=?oB;by_cases hlt:?wG
 . refine ?zE ?qI ?sG;obtain⟨p,k,v,hp,rfl,rfl,y⟩:=y;exact hs i k v zs τ _ p ?tR pp hp
 . have e:?o5:=O9m
   subst e;exact ?N ⟨?p3,?s9⟩
theorem Ui{d:Addr}{o:Obj}[?V][?mK](hl:∀i σ H,?hA->?a6->?dA)
 (hs:∀i k v σ H p,?dP->?B4 (?l3)) (hd:?AD ?mG) :
 ∃W:?f1,?gI/\∀i m σ H,?hM →
   (?AA ?bI)\/(?z1 ?bI ?bI):=by
 refine⟨fun i m σ H=>m=kvs.length-i/\?hA/\?a6,?oA,?_⟩;ext mR;have q:=?m8;by_cases hlt:?wG
 . refine ?zJ ?qI ?sG;obtain⟨p,k,v,hp,rfl,rfl,y⟩:=y;exact hs i k v σ _ p ?tR pp hp
 . have e:?o5:=O9m
   subst e;exact ?N ⟨?p3,?jM⟩
universe e9
universe L2
namespace L2
open PySem PySem.Spec PyProof.Rows PySem.SeqAt
theorem Xr{ms:?cM}:((cK ms).map (·.1)).Nodup↔(?g5 (·.1)).Nodup:=by
 unfold cK List.Nodup;rw[ql1,List.pairwise_map,List.pairwise_map];constructor
 . intro h;exact h.imp fun {a b} n z=>n (by simp[z])
 . intro h;exact h.imp fun {a b} n z=>n (by simpa using z)
section
variable[?aS]{ms:?cM}
universe e9
section
variable{X:Cx}{n:Nat}[?I]
inductive EJ[?n1]:Prop
 | mk:∀a kvs,(xs=[?u,.ty ?c2])->(?dB)->(Q (?gN) H)->?tM
def pW:?gT:=fun xs H Q=>?tM
theorem EA:E8 X (?dC "isinstance") pW:=by
 ext y8;obtain⟨u,v,rfl,rx,rt⟩:=CD r;cases rt;cases rx;obtain⟨z,hd,vs,rel,o,es,ep,ho,ex,_⟩:=?eM;exact PySem.IsiPair.dict_dict ho ex.1 ⟨?gN,H,I,rfl,q⟩
universe e9
universe L2
namespace L2
open PySem PySem.Spec PyProof.Rows
inductive IV[?n1]:Prop
 | mk:∀a kvs,(xs=?eC)->(?dB)->(∀p,?F->Q ?a0 (?BC p ?X))->?vN
def vF:?gT:=fun xs H Q=>?vN
theorem gJ{X:Cx}:E8 X (?v ?c2) vF:=by
 ext y8;obtain⟨u,rfl,rx⟩:=P6 r;cases rx;exact nW I e fun p s' hp I'=>⟨?bC,_,I',rfl,q p hp⟩
theorem u1{n c:Nat}(h:n+8<c):n+1<c:=O9m
def Cz[?U](k:Int):Int:=(?e7).getD 0
def putI[?U](k v:Int):?cM:=if (ms.any ?h1)=true then ?AJ ?g5 else ms++[(k,v)]
def Hl[?U](k:Int):?cM:=ms.filter fun p=>?w (p.1≠k)
theorem xM[?U](k v:Int):Mw (cK ms) (?cP) (?l v)=cK (putI ms k v):=by
 unfold Mw putI cK
 have e:((?g5 fun p=>?oV).any fun kv=>?w (?E=?cP))=(ms.any ?h1):=by
  rw[List.any_map]
  congr 1
  funext p
  simp
 rw[e];split
 . rw[ql1,ql1]
   congr 1
   funext p
   simp only[Function.comp];by_cases q:?S
   . simp[q]
   . have q':¬?sN=?cP:=fun z=>q (by simpa using z);simp[q]
 . simp
theorem RX[?U](k:Int):Vc (cK ms) (?cP)=cK ?u6:=by
 unfold Vc Hl cK;rw[List.filter_map]
 congr 1
 congr 1
 funext p
 simp
theorem oF[?U](k:Int):Ny (cK ms) (?cP)=?AR ?e7:=by
 unfold Dg cK Ny;rw[List.find?_map,Option.map_map,Option.map_map]
 have e:((fun p:?g2=>?w (p.1=?cP)) ∘ fun p:?hQ=>?oV)=fun p:?hQ=>?o1:=by
  funext p
  simp
 rw[e];rfl
theorem iL[?U](k:Int):(?AR ?e7).getD (?l 0)=?l (Cz ms k):=by
 unfold Cz;cases ?e7<;>rfl
theorem Db(p:?hQ)[?U](k:Int):Dg (p::ms) k=if ?S then ?c p.2 else ?e7:=by
 unfold Dg;by_cases q:?S
 . rw[List.find?_cons_of_pos (by simpa using q),?r q];rfl
 . rw[List.find?_cons_of_neg (by simpa using q),?o q]
theorem jU[?U](k v j:Int):Dg (putI ms k v) j=if j=k then ?aX else Dg ms j:=by
 have hs:∀[?n3],Dg (?AJ ?bH) j=if j=k then(?kP).map (fun _=>v) else ?kP:=by
  intro ns
  induction ns with
  | nil=>simp[Dg]
  | cons p ns ih =>
    rw[qd5,Db,Db,ih];by_cases e1:?S
    . by_cases e2:j=k
      . simp[e1,e2]
      . have e3:¬k=j:=fun z=>e2 z.symm;simp[e1,e2,e3]
    . by_cases e2:j=k
      . simp[e1,e2]
      . simp[e1,e2]
 have hn:∀[?n3],(ns.any ?h1)=(Dg ns k).isSome:=by
  intro ns
  induction ns with
  | nil=>rfl
  | cons p ns ih =>
    rw[qm2,Db,ih];by_cases e1:?S<;>simp[e1]
 have ha:∀[?n3],Dg (ns++[(k,v)]) j=(?kP).or (if k=j then ?aX else none):=by
  intro ns
  induction ns with
  | nil=>simp[Db,Dg]
  | cons p ns ih =>
    rw[List.cons_append,Db,Db,ih];by_cases e1:p.1=j<;>simp[e1]
 unfold putI;rw[hn];cases q:Dg ms k with
 | some z =>
   simp only[Option.isSome_some,if_true];rw[hs];ext c4
   . subst e;simp[q]
   . simp[e]
 | none =>
   simp only[Option.isSome_none,qq7,if_false];rw[ha];ext c4
   . subst e;simp[q]
   . have e':¬k=j:=?j7;simp[e,e']
theorem FO[?U](k j:Int):Dg ?u6 j=if j=k then none else Dg ms j:=by
 unfold Hl
 induction ms with
 | nil=>simp[Dg]
 | cons p ms ih =>
   rw[qj6,Db];by_cases e1:?S
   . rw[?o (?eR),ih];by_cases e2:j=k
     . simp[e2]
     . have e3:¬p.1=j:=fun z=>e2 (by rw[←z,e1]);simp[e2,e3]
   . rw[?r (?eR),Db,ih];by_cases e2:j=k
     . subst e2;simp[e1]
     . simp[e2]
section
variable[?G][?I][?yY]
universe e9
section
variable{X:Cx}[?y1]
universe e9
theorem Qb{α β:Type}{F:α->β->Prop}:∀{l:?l7}{m:?h β},l.length=m.length->(∀(i:Nat) (x:α) (y:β),l[i]?=?b7->?BE m y->F x y)->?mH F l m
 | [],[],_,_=>?p
 | [],_::_,h,_=>?s0
 | _::_,[],h,_=>?s0
 | x::l,y::m,h,f=>?D (f 0 x y rfl rfl) (Qb (by simpa using h) fun i a b ha hb=>f ?s a b (by simpa using ha) ?hJ)
def EM(n:Nat):?a4:=?sJ fun ?hP=>?hH
theorem Mj(n:Nat):(EM n).length=n:=by simp[EM]
theorem GW{n i:Nat}(h:i<n):?BE (EM n) ?hH:=by
 unfold EM;rw[qa9,ql2 h];rfl
inductive ON(Q:VK)(vs:?K)(H1:Hp):Prop
 | mk:∀n:Nat,(vs=[?d ?c9])->(n<=1000000)->(∀l,H1 l=none->Q (?e l) (upd H1 l (?t (?AW n))))->?pX
def ZG(ta:TA):TE:=fun σ H Q=>ta σ H fun vs H1=>?pX
theorem AQ{X:Cx}{a:Expr}{ta:TA}{p q pos pos2:Pos}(hc:?pD)(hg1:Gl X ?cU)(hm1:?b4 ?cU=none)(hg2:?oT)(hm2:?uL)(ha:?nJ)
 [?yD] (hs2:?AL [?kF]=[(?b6,?B8 (?kF))]:=by rfl) :
 PE X (?zB ?cU [?kF]) (ZG ta):=by
 ext iJ;refine Call_ (Iy I hg1 hm1 Dc (qf1 ?_ hs2 rfl));rw[hs2];refine qm4 ?_;refine Call_ (Iy I hg2 hm2 boot_range (qf1 (Dk (ha pos2 Ac s σ H _ I h) fun us s1 _z=>?_) hs rfl));obtain⟨vs,H1,I1,r1,q1⟩:=_z;obtain⟨n,e,hn,q⟩:=q1;subst e;obtain⟨u,rfl,ru⟩:=P6 r1;obtain⟨t,rfl⟩:=ru;refine call_range_1 (?jY);have I2:=?fA (h':=?eK { cls:=?v ?bG,data:=?b3 #[?d 0 s1.toks,?d ?c9 t,?d 1 (?uK)] }) (t':=?uK+1) ?lD;refine call_list_range (n:=n) (I2.ok.hd hc) (IsRange.new ..) (small_one ?R ?R O9m O9m) ?_ O9m fun h' tk acc' c' kp e it=>?_
 . rw[rangeSize_one];split<;>omega
 . obtain⟨sz,get⟩:=it;have hf:=I2.hok.fresh ?M;have hz:(?AW n).length<=sizeLine:=by rw[qa2,Mj,sizeLine_eq];omega
   have rel:Vals (?AW n) ?oQ:=by
    refine Qb ?_ ?_
    . rw[qa2,Mj];simpa using sz.symm
    . intro i x y hx hy
      have hi:i<n:=by
       have:=(?dS hx).1
       rwa [qa2,Mj]at this
      rw[qa9,GW hi]at hx;cases hx;obtain⟨t',rfl⟩:=get i y (by simpa using hy);exact⟨t',?T⟩
   refine⟨?e _,_,I2.laid (t':=tk) kp ?M (show ?b1 ?bJ X.w _ h' _ (?t (?AW n)) from⟨hz,?oQ,c',rel,?_⟩),rfl,q _ hf⟩;ext aU
def Itd(hi:Int)(n:Nat):It:=⟨fun i _=>i<n,fun i H x H'=>H'=H/\x=?m3,fun i _=>n<=i⟩
theorem Oj(a b:Int):?wO a b ?z=if b<a then a-b else 0:=by
 unfold Builtin.Range.rangeSize;rw[?o ?R];split
 . show(a-b-1) / 1+1=a-b;rw[Int.ediv_one];omega
 . rfl
theorem eW{a b:Int}(ha:-(?fS)<=a)(ha':a<?fS)(hb:-(?fS)<=b)(hb':b<?fS):Builtin.Range.small a b ?z=true:=by
 unfold Builtin.Range.small;rw[Oj];simp only[Builtin.Range.rangeFitsLong,qc3,qq1,qo5,qv6];split<;>simp<;>omega
theorem JB[?G][?I]{tg:Expr}(it:Addr)(hi:Int)(n:Nat):V2 P w K tg (?f8) ?c6 it (fun i h=>?u1 h it (hi+?hP*?z) (?c9-?hP) ?z) where
 mem:=?T
 obj:=fun i h st b hb=>by
  have e:b=it:=?bS
  subst e
  exact⟨_,st,fun v z=>by
   have z':?jL:=z;cases z'⟩
 keep:=fun i h h' st k=>k it ?n _ st
 item:=by
  ext aB;ext mL;have W:=Walks.range (prog:=X.prog) (w:=X.w) ?cZ it hi ?z n;refine W.item i s _ _ hg st fun v h' tk hv st' kk=>?_;obtain⟨t,rfl⟩:=hv;have I1:?zA H ?f0:=?j5 (fun b o hb e=>kk b o ?hJ e) f0 f1 f3 f4 f5;refine⟨_,rfl,IE (s:=?f0) (n:="range_iterator") st' rfl rfl ?R ⟨?m3,H,I1,⟨t,?_⟩,?vM,st',fun b hb=>?k4⟩⟩;rw[show hi+?hH*?z=hi-i by omega]
 done:=by
  ext aB;ext mL;exact wpAny_pyNext_range_end ?cZ st (by have:n<=i:=hg;omega) (?zW (fun b o hb e=>eb b o hb e))
 self:=fun _ _ _ _ _ st h=>wpAny_pyIter_rangeiter st h
inductive oV[?iC]:Prop
 | mk:∀(n:Nat),(vs=[?d ?bY,?d ?z,?d ?z])->(n<=1000000)->(R (Itd ?bY n) H1)->?rM
def Ac7(ta:TA):TI:=?z4 ?rM
theorem qE{X:Cx}{tg:Expr}{a b c:Expr}{ta:TA}{p pos:Pos}(hg:?oT)(hm:?uL)(ha:PA X ?m7 ta)(hs:?AL ?m7=[?kY,?fM,?s5]:=by rfl)(hs2:?AL [b,c]=[?fM,?s5]:=by rfl) :
 PI X tg (?zB ?bG ?m7) (Ac7 ta):=by
 intro Ac s σ H R I h;refine Call_ (Iy I hg hm boot_range (qf1 (Dk (ha pos Ac s σ H _ I h) fun us s1 ⟨vs,H1,I1,r1,q1⟩=>?_) (by rw[hs,hs2]) (by rw[hs2];rfl)));obtain⟨n,e,hn,q⟩:=q1;subst e;cases r1 with
 | cons r rr =>
   cases rr with
   | cons r' rr =>
     cases rr with
     | cons r'' rr =>
     cases rr;obtain⟨t,rfl⟩:=r;obtain⟨t',rfl⟩:=r';obtain⟨t'',rfl⟩:=r'';refine call_range_3 ?R ?_ (Or.inl (PyProof.noPylong_small O9m));refine wpAny_pyIter_range (IsRange.new ..) (eW O9m O9m O9m O9m) ?_;have I2:Bk X Ac σ H1 { s1 with heap:=?zK t,toks:=s1.toks }:=?fA ?lD
     refine⟨?tX,[_],_,_,H1,rfl,
      ?BB I2.kept ?lD,JB _ ?bY n,?_,?aZ,q⟩
     . have e1:?s4=?fF:=?T
       have e2:?c9-?jF=?wO ?bY ?z ?z:=by rw[Oj];split<;>omega
       show ?u1 _ _ (?s4) (?c9-?jF) ?z;rw[e1,e2];exact ?bP
     . have e:b=?tX:=?bS
       subst e;ext yK
theorem nQ{hi:Int}{n:Nat}[?mK]
 (hs:∀i σ H,i<n->?a6->g (?m3) σ H ?g6) [?yW] :
 ∃W:?f1,?gI/\∀i m σ H,?hM →
   (?AA ?f8)\/(?z1 ?f8 ?f8):=by
 ext xR;rintro i m σ H ⟨hm,hi',hp⟩;by_cases hlt:i<n
 . refine ?aM ⟨hlt,?aJ,fun σ' H' h=>⟨n-?s,O9m,rfl,O9m,h⟩,?_⟩;rintro x H' ⟨rfl,rfl⟩;exact hs i σ _ hlt hp
 . refine .inl ⟨by show n<=i;omega,hd σ H (by have:i=n:=O9m
                                              subst this;exact hp)⟩
universe L2
namespace Lat
open Hb
noncomputable abbrev Mat:=?c0
theorem sumN_all0[?aV]{n:Nat}(h:∀k,k<n->f k=0):?b2=0:=by rw[Ag h,Pd]
theorem sumN_one[?aV]:∀{n j:Nat},j<n->(∀k,k<n->k≠j->f k=0)->?b2=f j
 | n+1,j,hj,h=>by
   show ?cW=f j;by_cases e:j=n
   . subst e;rw[?mB fun k hk=>h k ?g ?g];omega
   . rw[?fY (n:=n) (j:=j) ?g ?oG,h n ?g (?j7)];omega
def In(w n:Nat)(R:Mat)(v:?m):Prop:=∃x:?m,∀c,c<w->v c=?A8 n
theorem In.row{w n:Nat}{R:Mat}{j:Nat}(hj:j<n):In w n R (R j):=⟨fun k=>if k=j then 1 else 0,fun c _=>by
 rw[Da (fun k=>R k c) j n,?r hj]⟩
theorem In.zero(w n:Nat)(R:Mat):In w n R (?dQ):=⟨?dQ,fun c _=>by rw[sumN_all0];intro k _;simp⟩
theorem In.mix[?yP](hv:?kN)(a b:Int):In w n R (fun c=>?rC):=by
 obtain⟨x,hx⟩:=hu;obtain⟨y,hy⟩:=hv;refine⟨fun k=>a*x k+b*y k,?b0⟩;show ?rC=_;rw[?gQ,hy c hc,←Ay,←Ay,←Cd];refine Ag fun k _=>?_;rw[Int.add_mul,qe1,qe1]
theorem In.congr[?yP](h:∀c,c<w->u c=v c):?kN:=by
 obtain⟨x,hx⟩:=hu;exact⟨x,fun c hc=>by rw[←h c hc];exact ?gQ⟩
structure C8(w r:Nat)(R:Mat)(t:?pW):Prop where
 lt:∀j,j<r->t j<w
 inc:∀j k,j<k->k<r->t j<t k
 zero:∀j c,j<r->c<t j->R j c=0
 pos:∀j,j<r->0<?eJ
 red:∀k j,k<j->j<r->0<=R k ?dH/\R k ?dH<?eJ
theorem C8.mono[?iA]:∀j k,j<=k->k<r->t j<=t k:=fun j k h1 h2=>by
 rcases qg5 j k with z | z
 . exact qd4 (?eG j k z h2)
 . rw[show j=k by omega];exact ?bD
theorem C8.ge[?iA]:∀j,j<r->j<=t j
 | 0,_=>?aH
 | j+1,hj=>by
   have:=h.ge j O9m;have:=?eG j ?e2 O9m hj;omega
theorem C8.lead[?iA]{v x:?m}(hx:∀c,c<w->v c=?uU) :
 ∀j,j<=r->(?qD)->(∀k,k<j->x k=0)/\(j<r->v ?dH=x j*?eJ):=by
 intro j
 induction j with
 | zero =>
   intro _ _;refine⟨fun k hk=>O9m,?tV⟩;rw[hx _ (h.lt 0 hr),?q0];rw[?kA k _ hk (?eG 0 k ?g hk)];simp
 | succ j ih =>
   intro hj hv;obtain⟨h1,h2⟩:=ih O9m fun k hk=>hv k O9m
   have hxj:x j=0:=by
    have e:=h2 O9m;rw[hv j ?g]at e;rcases qo2.mp e.symm with z | z
    . exact z
    . have:=h.pos j O9m;omega
   have hall:∀k,k<j+1->x k=0:=fun k hk=>by
    by_cases e:k=j
    . rw[e];exact hxj
    . exact h1 k O9m
   refine⟨hall,?tV⟩;rw[hx _ (h.lt _ hr),?q0];by_cases e:k<j+1
   . rw[hall k e];simp
   . rw[?kA k _ hk (?eG ?e2 k ?g hk)];simp
theorem C8.only[?iA]{v:?m}(hv:?o3){j:Nat}(hj:j<r)(h0:?qD)(h1:v ?dH=?eJ)(h2:∀k,j<k->k<r->v ?cS=0):∀c,c<w->v c=R j c:=by
 obtain⟨x,hx⟩:=hv;obtain⟨a1,a2⟩:=h.lead hx j O9m h0
 have xj:x j=1:=by
  have e:=a2 hj;rw[h1]at e;have p:=h.pos j hj;have:(x j-1)*?eJ=0:=by rw[Int.sub_mul];omega
  rcases qo2.mp this with z | z<;>omega
 have rest:∀m,m<=r->∀k,j<k->k<m->x k=0:=by
  intro m
  induction m with
  | zero=>intro _ k _ hk;omega
  | succ m ih =>
    intro hm k hjk hk;by_cases e:k<m
    . exact ih O9m k hjk e
    have ek:k=m:=O9m
    subst ek;have hv2:=h2 k hjk O9m
    have e2:v ?cS=R j ?cS+?e9:=by
     rw[hx _ (h.lt k ?g)]
     have:Ai (fun i=>x i*?jC) r=Ai (fun i=>((if i=j then 1 else 0)*?jC)+((if i=k then 1 else 0)*(?e9))) r:=by
      refine Ag ?vP;by_cases e1:i=j
      . subst e1;rw[xj,?r rfl,?iX];simp
      . rw[?o e1];by_cases e3:i=k
        . subst e3;rw[?r rfl];simp
        . rw[?o e3];by_cases e4:i<j
          . rw[a1 i e4];simp
          . by_cases e5:i<k
            . rw[ih ?g i ?g e5];simp
            . rw[?kA i _ hi (?eG k i ?g hi)];simp
     rw[this,Cd,Da (fun i=>?jC) j r,?r hj,Da (fun _=>?e9) k r,?r ?g]
    rw[hv2]at e2;obtain⟨r0,r1⟩:=h.red j k hjk O9m;have p:=h.pos k O9m;rcases Int.lt_trichotomy (x k) 0 with z | z | z
    . have:?e9<=-1*?kE:=?uG;omega
    . exact z
    . have:1*?kE<=?e9:=?uG;omega
 intro c hc;rw[?gQ,?fY hj ?pA,xj,qd0];by_cases e:k<j
 . rw[a1 k e];simp
 . rw[rest r ?M k ?g hk];simp
structure Ec(n w:Nat)(T T':Mat):Prop where
 fwd:∀i,i<n->In w n T (T' i)
 bwd:∀i,i<n->In w n T' (T i)
 st:∃r t,r<=n/\?kZ/\?lH
theorem In.sub{w n r:Nat}{R:Mat}{v:?m}(h:?kN)(hr:r<=n)(hz:?AP R):?o3:=by
 obtain⟨x,hx⟩:=h;refine⟨x,?b0⟩;rw[?gQ]
 have:∀m,r<=m->m<=n->?A8 m=?uU:=by
  intro m
  induction m with
  | zero=>intro h1 _;rw[show r=0 by omega]
  | succ m ih =>
    intro h1 h2;by_cases e:r=m+1
    . rw[e]
    . show Ai _ m+x m*R m c=_;rw[ih ?g ?g,hz m c ?g ?g hc];simp
 exact this n hr ?M
def Mh(n w k:Nat)(T:Mat):Prop:=k<=n/\k<=w/\(∀j,j<k->0<T j j)/\(∀j c,j<k->c<w->c≠j->T j c=0)/\(∀i j,i<n->j<k->i≠j->T i j=0)
theorem Mh.flip{n w k:Nat}{T:Mat}(h:?iS):Mh w n k (fun i j=>T j i):=⟨h.2.1,h.1,h.2.2.1,fun j c hj hc hne=>h.2.2.2.2 c j hc hj hne,fun i j hi hj hne=>h.2.2.2.1 j i hj hi hne⟩
def IP(n w k:Nat)(T:Mat):Prop:=?iS/\k<n/\k<w/\0<?bK/\∀c,c<w->c≠k->T k c=0
theorem Ec.keep{n w:Nat}{T T':Mat}(s:Ec n w T T'):∀{k:Nat},?iS->Mh n w k T'/\(∀j c,j<k->c<w->T' j c=T j c)/\∀r t,r<=n->?kZ->(?lH)->k<=r/\∀j,j<k->t j=j:=by
 intro k
 induction k with
 | zero =>
   intro h;exact⟨⟨?aH,?aH,?qR,?rG,fun i j _ hj=>O9m⟩,?rG,fun r t _ _ _=>⟨?aH,?qR⟩⟩
 | succ k ih =>
   intro h;obtain⟨hn,hw,hp,hr,hc⟩:=h;obtain⟨c1,c2,c3⟩:=ih ⟨O9m,O9m,fun j hj=>?s7,fun j c hj=>hr j c O9m,fun i j hi hj=>hc i j hi O9m⟩
   have key:∀r t,r<=n->?kZ->(?lH)->k<r/\t k=k/\(∀c,c<w->T' k c=T k c):=by
    intro r t FQ hst hz;obtain⟨kr,ht⟩:=?o6;have hin:=(s.bwd k O9m).sub FQ hz;obtain⟨x,hx⟩:=id hin;have v0:∀l,l<k->T k (t l)=0:=fun l hl=>by rw[ht l hl];exact hc k l O9m O9m O9m
    obtain⟨x0,_⟩:=?rW;have hpk:=hp k O9m
    have hlt:k<r:=by
     refine qj5 ?vU
     have:?bK=0:=by
      rw[?nK];exact ?mB fun l hl=>by rw[x0 l ?g];simp
     omega
    have htk:t k=k:=by
     have g:=hst.ge k hlt;refine qj1 (qg9 ?vU) g
     have:?bK=0:=by
      rw[?nK];refine ?mB fun l hl=>?_;by_cases e:l<k
      . rw[x0 l e];simp
      . rw[?p4 l k hl (qb3 z (hst.mono k l ?g hl))];simp
     omega
    obtain⟨_,a2⟩:=?rW;have e1:=a2 hlt;rw[htk]at e1;have pk:=hst.pos k hlt;rw[htk]at pk;obtain⟨y,hy⟩:=s.fwd k O9m
    have e2:?hC=y k*?bK:=by
     rw[hy k ?g];exact ?fY O9m fun l hl hne=>by rw[hc l k hl ?g hne];simp
    have same:?bK=?hC:=by
     have d1:?hC∣ ?bK:=⟨x k,by rw[e1,qf9]⟩
     have d2:?bK∣ ?hC:=⟨y k,by rw[e2,qf9]⟩
     exact Int.le_antisymm (ql4 pk d2) (ql4 hpk d1)
    refine⟨hlt,htk,fun c hcw=>?_⟩;exact(hst.only hin hlt v0 (by rw[htk];exact same) (fun l hl1 hl2=>hr k (t l) O9m (hst.lt l hl2) (by have:=hst.inc k l hl1 hl2;omega)) c hcw).symm
   obtain⟨r,t,FQ,hst,hz⟩:=s.st;obtain⟨k1,k2,k3⟩:=?nQ;refine⟨⟨hn,hw,?jI,fun j c hj hcw hne=>?_,fun i j hi hj hne=>?_⟩,fun j c hj hcw=>?_,fun r t FQ hst hz=>?_⟩
   . ext c4
     . subst e;rw[k3 j ?g];exact ?s7
     . exact c1.2.2.1 j O9m
   . ext c4
     . subst e;rw[?pL];exact hr j c O9m hcw hne
     . exact ?p6 j c O9m hcw hne
   . ext c4
     . subst e;by_cases e2:i<j
       . exact ?p6 i j e2 O9m O9m
       . by_cases e3:i<r
         . exact ?p4 i j e3 (by have:=hst.inc j i O9m e3;omega)
         . exact hz i j O9m hi O9m
     . exact c1.2.2.2.2 i j hi O9m hne
   . ext c4
     . subst e;exact ?pL
     . exact c2 j c O9m hcw
   . obtain⟨a,b,_⟩:=?nQ;obtain⟨_,ht⟩:=?o6;refine⟨a,?jI⟩;ext c4
     . rw[e];exact b
     . exact ht j O9m
end
mutual
#check(4,[?a,?b,(?lF),spot,if_neg,∀{t:?x},a,prodN,(?bV),(i+1),addR,?e ?c,Nat->Int,(t l),if_pos,?n rfl,(t j),2 ^ c,(?mV),2 ^ b,blendR,In.row,∀(t:?x),a,.(by grind),Nat->Nat,shrS,moveR,2 ^ π,(n+1),R j ?p,sumN_all0,∀(R B:Mat),a,A.fdiv B,?n ?c,∀{n W w i:Nat}{G:?a3},a,(j+1),(?bF),this,.(by split<;>omega),unit,Cf ne,Good,(c+1),(i-d),∀(hp:p<n)(hq:q<n)(ne:?cP),a,∀{f:?l},a,D i j hi hj,funext,fun j hj=>?_,2 ^ (2*π+1),(A p),?e e1,T k k,?e z,h.pos,(by ext L),Nat->Prop,(?cK t i ?bK),(s l),r<=j,(p+1),(t k),∀{G:?a3}{M B0 R B:Mat},a,.(by exact this),(i-?r),(k+1),?n z,(R,B),A p c,C6 O9m,(?aG),r<=i,h.old,R r c,.(by unfold moveR),Bits,(t i),R p c,sumN_one,j<=i,h.zero,?zT A,(i-(e+1)),.inr,?g f m,.inl,.(by rw[?k]),∀(f:?l),a,∀{R B:Mat},a,(A q),(f+d),t ?d,H.hi,z.symm,r1.fdiv r2,Gc ne,.(by rw[this];simp),∀{n p q:Nat},a,∀(hp:p<n),a,h.low,ih O9m,(?c8).natAbs,spot<l,(d+1),qa8 _,i-d+1,(-q),b+i+3+2*π,?zN t d,(kt i),(1:Int),(π+1),Part,∀(H:?qN)(h:?vO),a,∀(a b c d:Int),a,∀(hs:spot<i),a,∀(n w:Nat),a,(?cY),(0:Int),?e e2,qa1 _,put2,(s c),?g f n,fun r c hr hc=>?_,(?hG),R' p ?p / ?C,(?y2 T ?p),(?s3),T i c,R j c,(tr T),addS,R l ?m,hst.lt,addR_row_ne,(fun r c=>R r ?bX),r≠p,(?eO),R' p ?m,cS π i,(?C).natAbs,(?tP),(-1),T' k k,insT,keep,?g f k,(by decide),(pb R t k ?dZ).natAbs,p≠q,R i c,∀{kt t:?x}{hd:?l},a,∀(h:?pV),a,.(by refine qr6.mp ?nR),∀(bb:?t9),a,∀(R:Mat)(p q:Nat),a,∀{R0 B0 R B:Mat},a,∀(s:?dB),a,kt j,(?bG),j=spot,S.same,R ?cD (t ?cD),(?aK).natAbs,fun _ _ _=>rfl,fun l h1 h2=>?_,hst.zero,H.part.inc,h.st.lt,?n e2,T k c,Mat × Mat,r<=w,f<=j,fun c hc=>?_,R j ?m,fun k hk=>h k O9m,downS,Q6 f ne,Bt e,fun j c hj hc=>?_,(Ge R p),r<=n,(?h8),(r-1),Vn s r c,T r ?bX,R ?d c,(?eT),?cQ=0,(?gF).1,Bt ?c,(j-1),?n e1,spot<r,(n-k),k+m<i,V r c,?g ?c2 i,(?mD),?g (?y2 T' ?p) r,A r c,h.gc,∀(n W w i:Nat)(G:?a3),a,.(by rw[move_row];unfold mvI),∀(h:?qC),a,.(by by_cases e:j=k),.(by by_cases e:j=p),.(by exact qj4 _ g0),R i x,a m*U m c,h x y hx hy,?g ?eZ j,(i+d),?hG<=i,pb R t k m,blend_row_p ne,(?fU).congr,hst.ge,(f+m),k+1+m,?e e,R' p c,(?gR),β+(π+2),?z R i s,2 ^ ?bM,(β+cM π i),h.red,fun j hj=>O9m,2 ^ ?lT,(?iH),2 ^ δ,A / g,(t ?b1),absurd,?cK t ?d st j,Mg k k,?g ?eZ i,ih ?c,Ai (fun i=>Rr i*A i 0*?rL) ?B,R r x,r1-?b5*r2,Ai f n,x1*y2-x2*y1,S1.same,h.st.pos,?g ?c2 ?i,2 ^ β,(?vI),c<=?b2,(n-1-k),U k c,?e ne,j<spot,ChainAt,h.st.inc,Z r c,(L+2),(Bx A p u),(?lH),i≠j,?u hj,?n e,u ?P,T j c,b*f x,∀(K:?r1)(h:?u3)(hi:?aI),a,∀{A B r1 x1 y1 r2 x2 y2:Int},a,∀{n w r:Nat}{E:Nat}{e:Int},a,∀{R B:Mat}(h:?rY),a,∀{R:Mat}(h:?zO b R),a,.(by rw[?G]),.(by refine qj5 ?iM),∀{C:?a3}{δ:Nat},a,.(by by_cases e:?d0),∀{n W w r i:Nat},a,∀{π b spot:Nat},a,∀(u v:?l),a,∀{i:Nat}{R:Mat},a,∀(h:?wN),a,?y0 e2,fun k=>B k a*?kZ,?y t p f ?aE d,(?nN),(i+1+m),?y t p ?r ?aE d,(?cK t ?d st),2 ^ (c+b),?c3+1,2 ^ e,Vn s j c,(tr Mg),fun r l=>R r (j8 t k c l),(?jB),fun j=>?gX,?bN R t f m,2 ^ (j-f)*μ*?bC,?g (?oU) m,?bI+spot*?bM,lo<=n,T j j,?g f ?h2,qe5 ?cN O9m,Shares,(u l),(m+d),Ai f j,pT n B R a b,?v6*h,s2.bwd,base l h1 h2,h r c hr hc,?A*?bC,fun _=>0,?xV i j,fun a c=>?p3,fun _ _=>rfl,(?mP),fun l hl=>?_,?mV+d,(?kE),R k ?a8,Ai _ ?B,(by unfold cM;omega),?e a1,Good.refl ..,?g f' m,?bY*f n,?iS j hj,?d2*?eJ,In.zero,?a1 j O9m,Kb R t i ?aT,Hy n w r e T,?y t p f s m,h.st.zero,∀j,j<r->?gX∣e,d<=i+1,i+1-d,fun c=>a*u c+b*v c,?zL r c,h _ O9m,(qg9 ?iM),(f j),M a ?p,h.good.trans,(?eG).natAbs,(K:Int),fun k hk=>?_,(?j P i j 1),?zN ?a4 d,Kb R t i r,(-(?y3 m (t ?cD))),h.inc,Ai (?gE) i,h1.2.2.2.1,fun l=>?c8,?zL ?d st,A-?F*B,(-(b*q)),bb.2.1,fun z=>?_,h.st.red,?aS=0,?n a1,h.ker,2 ^ Y,hst.pos,.(by repeat (first | rw[?o] | rw[?fL] | rw[?e ne'])),.(by refine⟨?V,?V⟩),.(by rw[?k,?o]),.(by rw[?e y,?k]),.(by rw[?n y,?G]),∀(hz:∀c,c<?b2->?dT),a,∀{a b c d:Int}(h:a*d-b*c=1),a,∀{n w r:Nat}{e:Int}{T:Mat},a,∀(he:0<e)(h:?hU),a,∀{D:Nat}(hD:N3 m G M D),a,∀(tX:∀c,G c->c<W),a,∀{R:Mat}{p q r:Nat},a,∀(hi:i<n)(hs:s<=i),a,∀{n p:Nat}{A:Mat},a,∀{R B R' B':Mat},a,∀{n W w i m:Nat},a,∀{n W w lo:Nat},a,∀{s:?dB},a,?c7 i ?d ?bH ?aE,∀l,?bD->l<i->?b2<t l,t j<t k,?g ?c2 ?aC,?bW f i j x ?i4,(?fU).mix,Ai (fun j=>a j*U j c) m,?z1 h.pv,?g ?eR k,.(by have:=h.pos;omega),?sC n w T,R0 r c,fun r x hr hx=>?_,h.partOf,R i (w+c),x2*r1+-x1*r2,.(show b+c+1=(c+b)+1 by omega),po x x1 x2,?M e j j,?yD XW r2,?xZ R' B',?e x1,?M (?fF) i d,Z6.zero,?y7 ?dA m,h.col0,?a1 k hk,?y t p f s d,hst.lead,In.sum,D i i hi hi,2 ^ (j-?r)*μ*?s,T i d*X d j,2 ^ (zz-2),?hZ<=r/\r<i,?g f ?B,h.st.s0,r=spot,(i-1-k),blendS ?d i x y z u ?aE,qf9 ..,?zN t 0,Ec n w T T',?g ?c2 r,P.zero,R1 r c,(i-1-j),blend_row_ne,2 ^ (z-2),h.detsD,⟨fun j k _=>?fO j k,fun j c _=>?hW j c,fun j _=>?fE j,fun k j _=>?iN k j⟩,?g (fun l=>f (k+1+l)) ?fJ,Ai (fun j=>(v ?p*?eG)*?vN) i,?n hr,fun k _=>?_,?yD yP r2,sq.flip,?A2 (?bJ) m,O5 hA hB,?zP ?i R0,R k ?p,?y5 i,(κ*D),2 ^ i*μ,y.natAbs<=?A,fun j c hj=>O9m,?y5 p,?zU ?d ?hH,2 ^ η,fun y=>hne y.symm,r2≠0,∀k,k<n->0<f k,Ai (fun k=>a k*?fK) m,?n e3,D j j hi hi,h n O9m,.(by omega),f i / g,fun r l=>R r ?m,?y0 y1,(?gI).1,r1≠0,Ag ?i9,?y3 m ?m,?z B i ?d,.(by rw[eA];ext eC),Ag ?vU,h.s0.inc,?e e4,fun j h1 h2=>?_,(β+c),hx c hc,∀j,j<r->t j=j,q.natAbs<=?A,pT n B0 M a ?p,?zJ k,fun d hd=>?_,?kM e2 e3,fun j hj hne=>?_,(?y3 ?dZ c).natAbs,(?f6).natAbs,?g _ m,h.back x hx,h c hc,?zT (Fz A p),.(by rw[h,qd0]),?n a2,x.natAbs<=?A,Dw (?xU l spot) (?xU l i),CN T s k,fun z=>ne ?b4,?e a2,?e x2,s.1 j ?p,h.good.rest,fun j h1 h2=>O9m,(?fA).natAbs<r2.natAbs,spot≠i,B.fdiv r2,spot<=i,?t R ?d i x y z u,qe3 _ O9m,(?yL R),C4 e c,?e6 r c hr hc,Mg k l,Int.mul_pos,?zT (Fz A ?a7),spot+1,Ai (fun k=>a k*?xW (U k)) m,fun r x=>?_,?y0 y2,.(by have t2:?cK t i ?bK i=kt i:=?uU),.(by have D:∀i j,i<n->j<n->?sI=?u1:=h),.(by rw[?k,?k,?k]),∀(h:∀l,?bD->l<i->?t3),a,∀{x y z u:Int}(e:IX π (?uN) (?qL) x y z u),a,∀{i:Nat}{T:Mat}(h:∀r c,r<i->r<c->T r c=0)(s:?x),a,∀(hG:∀r c,?dY->r<i->G c->?d3<=?s),a,∀(hq:∀k,k<i->(Kb R t i k).natAbs<?q)(hi:i<n),a,∀{C:?a3}{R:Mat}(h:Qn n C δ b R),a,.(by rw[?bU,?k]),∀(hq:q<n){k:Int}(hk:?o9),a,∀{s:?dB}(h:?xT β s),a,.(by rw[?rV]),.(by refine ?D ?hF),∀(A B r1 x1 y1 r2 x2 y2:Int),a,∀(hn:i<n)(hp:p<=spot\/p=i),a,∀{T Mg:Mat}(s:?u4),a,∀(P:?bN R t ?r i),a,∀(p:Nat)(u:?l),a,∀(hA:0<A)(hB:B≠0),a,∀{b p spot μ:Nat},a,⟨O9m,?_⟩,(a*x+k*y).natAbs,Int.dvd_add,?z R i ?d,k*R q ?a5,.(show n+1-1-k=n-k by omega),Mh n w k T,fun y=>?_,C8 w r R t,q*(y2*y2),h _ _ ?a2 O9m,(?aU rfl),fun c=>?aF+k*A q c,tl _ ?h,(x / h).natAbs,Ai (fun j=>(Ai (fun d=>?k7) r-(?pW))*?fX) r,D j i hj hi,x1.natAbs<=B.natAbs,h.2 b hb O9m,h3 r t FQ hst hz,fun r c hr=>Bt O9m c,?aJ ?d _ ?h hs,y2*r1+-y1*r2,fun r c hr=>?_,LJ.start,k.natAbs<?q,∀m,m<=n->∃r,r<=m/\?yO m,?aJ j c O9m hji,Int.mul_neg_of_pos_of_neg,Int.mul_neg_of_neg_of_pos,Qh R t j ?kL (t m),∀j,j<r->In w n T ?uC,zero j c hj hc,R1 l ?m,?t R j q a b c d,c<t j->?c5=0,R0 j ?p,?zL ?d c,fun l=>?dF,(r-k)*?fQ,∀i c,i<n->r<=c->?v2,?yJ d s,(f k).natAbs,Mh n w k Mg,N3 r (fun c=>c<w) T E,Ai (fun k=>B k a*R k b) n,?bW f i j x y,(?zY ?pR),h.step h2,?fG<=?eY,(?wM).natAbs,?A1 (?mC),B j a*?C,?g (?jF) m,.(by rw[Gp,Gp]),if c<w then T a c else 0,?u (R:=Ge R j) hj,?M e l k,D q j hq hj,Bx ?fR q v,(?u hq),(?zY ?lB),fun x hx=>?_,fun l h1 h2=>?z1 h,?sO i c ?h,?j R i ?d ?bH,?cL j c ?c,∀j,j<i->0<?C,Dw e e2 a b c d k,Int.natAbs_mul_self,sumN_cut,(?aS).natAbs,qw4 c β,?g (fun l=>f (k+1+l)) ?dZ,fun j hj=>?fU,(?i6 g).trans,?A1 ?rP,c*R p k+d*R q k,h.s0.zero,?y3 m ?bX,?g f' l,fun _=>?bT,Z6.pos k YE,Dq n W w i G M B0 t R B,if i=j then e else 0,(?yM ?eT).congr,fun j _ h=>O9m,(v ?p).natAbs,C4 O9m c,Gc ne a b c d k,(?e5).natAbs,b*f j / g,qb4 _ ?aH,?yH w,IP n w k Mg,.(by ext xI),y.natAbs*?f0,ChainTo m i f,Int.lt_or_gt_of_ne,?y t i ?r (?l6) ?aB,E7 n w r E e T,g3 q u hqw Z6 nH,fdiv_small,?fE j hj,?zV (?hC) m,Dq n W w n G M B0 t R B,.(by rw[h.a.e1,h.a.e2];grind),i<n->?wB,x.natAbs*?f0,R i (?b2),(y2*r1)*(-y1*r2),Je n W w i G R0 B0 t π b,r1.fmod r2,.(fun x=>by rw[h.rows,?k]),?y3 m ?a8,?aR j c hj hc,.(by unfold mvI;split;omega;split;omega;ext L),hz c ?c,?B*bJ n,?zU p ?aE,0<=?c4/\?c4<=e,fun k=>?pP,fun k hk=>O9m,a*R p k+b*R q k,h.st.st.red,P4 n W w r kt hd M,hst.s0.low,fun r c hr hc=>qb3 ?dN (qe5 ?cN hb),?h0 A B g a b,t1 j ?c,Dw h1 h2,s2.keep h1.flip,(?f9).natAbs,?M e j c,bJ n*B ^ n,?t R p j a b c d,qb3 (h r x hr hx) (?gZ),Dw e1 e2,fun c=>- ?aF,h.s.same,run d hd,ql7 _ gn,pT n B R a ?p,?dU ?b1 ?f2,Bx A p ?X,?zT (Fz A i),(?aO).natAbs,h.tab j h1 O9m,?iQ j h1 h2,?yL T,K.head i hi hn,.(by rw[qd0]),D i p hi hp,Je n W w i G R B t π b,?fN m i j f,?sO i _ ?h,Int.mul_le_mul,(?t1).natAbs,Fb n w R B,h.hd j hj,N2 n W w i R B t (?hZ) (?bJ).1 (?bJ).2,hst.mono,∀j c,j<i->?oJ,if p<i then p else p-1,?zV V r,?zZ ?dR ?s,mvI i s r,(β+?P),?d1 j _ e,Ai (fun k=>T c k*X k i) r,bd r c hr hc,qe3 _ r1p,Straight,.(by rw[eB];ext eC),?zN ?a4 ?i,c<w->i<c->?c4=0,(?l)->(?l)->Int,.(show ?hZ=?bG by omega),?zI (R i) (B j),Int.ediv_nonneg,IP n w k T,(?c1).natAbs,?a1 j hj,.(fun c _=>by ext aL;rw[?dX]),h.st.good.rest,e0.step (?F),∀j,j<r->0<?gX,B p x*R p y,(?u O9m),fun c=>1*P i c+1*P j c,.(show i=s by omega),c<w->?dT,?bA (j:=?eO) (l:=l) ?c ?c,q*(x2*x2),i<=a/\a<i+d,Ai (fun k=>f k+-1*g k) n,x.natAbs<?q,?g ?eZ k,Mg (u k) k,(R p ?m).natAbs<=μ*?bC,?j B ?d i q,Hx ?i R t,?K n ?h,⟨i-1,O9m⟩,i<=a/\a<n,?xT β ?aE,∀m,m<d->?A2 s m=s,B q x*R q y,Bx A p ?b0,D j j hj hj,?fD l _ ?c,0<=?cE/\?cE<?c8,.(by unfold Ge;rw[Bi];omega),∃r,?dM/\?yO n,ZU j hj e,bb.1 r x hr hx,fun c _=>?_,R ?cD ?bX,fun c _=>?tG,Int.mul_fdiv_add_fmod,(x2*r1)*(-x1*r2),?j R p q k,?K i O9m,show(-0:Int)=0 from rfl,R' j c=?c5,C8 w r T t,Good.add,∀j,j<i->G ?p,?e6 c hc,C8 w r T' t,R' r c=?aK,⟨O9m,O9m,?aW rfl,fun d h1 h2=>⟨h1,h2⟩⟩,Dw O9m O9m _ _ _ _ c,if i=j then 1 else 0,hx k hkn,?z8 i,Us n w T Mg,?zU i ?gQ,fun i c a b d=>?hW i c b (by have:=h2 i a b;omega),(?zY ?wH),fun c hcw hne=>?_,(oB ?h),p*f x-q*f i,0<=?kZ/\?kZ<?C,(?M e j),∀i c,?aI->?vX,Ai (fun c=>y c*?jZ) w,∀i,i<r->?zW e,⟨1,by rw[z];omega⟩,2 ^ (c+η),?g ?c2 ?bE,qj1 ?i3 (Z6.ge k YE),qg8 _ ?c,?zR d ?bJ,congrArg,R ?d (?b2),?g (fun k=>f ?aC) n,Int.natAbs,2 ^ (π+b),qj2 O9m O9m,b1.mono ?hK,.(by rw[qf4];omega),.(by unfold insT;ext iV),fun d _=>?_,skip_prod,(?w3).natAbs,D.s0.pos,⟨h1,fun j k a b=>?fO j k a O9m,fun j c a b=>?hW j c O9m b,fun j a=>?fE j O9m,fun k j a b=>?iN k j a O9m⟩,x2.natAbs<=B.natAbs/\y2.natAbs<=A.natAbs,∀spot,?mM->Dj n W w i G R B t π b ?d R B,c<w->?c4=0,?zN t ?bE,r≠spot,Ai (?gE) ?eH,2 ^ (2*π),pD n w R B i j,i*(?cF+1),(?eQ).natAbs,∀j,j<i->t j<W,xR i t R,.(by show ?bT<1;decide),hx j ?c,?zV (?hC) i,?g ?eR i,⟨x,fun _=>hx⟩,fun z=>hne ?b4,?t R p q a b c d,.(by rw[←hz2];exact qe6 _ _),Int.le_refl,fun r c hr=>?q0,?j R j q k,Qh R t j ?kL c,Dj n W w i G R0 B0 t π b ?d R B,.(fun c _=>by rw[Bt ne,Bi,Bi]),∀j,j<i->(B j a).natAbs<=2 ^ j*m,?zY ?tL,Ji f z hne,(?f8).natAbs,fun i hi=>?_,∀r c,?cC->?tY,?aJ l _ ?c h2,i<n->?v2,Nat->?dB,(2*a).log2,?wG j hj,?zR ?bE ?kW,k r c hr,R ?d ?m,.(by rw[Int.neg_fmod_neg];omega),fun r c hr=>?u0,(ql0 ?_),fun k=>?qZ,(B i x).natAbs,Nat->?l,Int.neg_dvd.mpr,c<w->T' i c=0,?pQ j c hj hc,R1 ?Q ?m,?f6*v c+?cI*?kR,∀j,j<r->u j=j,h.s0.pos,1*?aO+k*R q c,Nat.mul_comm,show ?xV i p from ?Y,y1.natAbs<=A.natAbs,qj7 O9m m0,Kb R ?a4 i k,Hx i R t,?g ?c2 m,ql6 O9m O9m,∀l,l<i->G ?a5,c j h1 O9m,qf2 (a*x) (k*y),Ai (fun k=>X l k*U k i) ?gH,.(by obtain⟨r0,r1⟩:=H.part.red ?d l ?J h1 h2;rw[←?o5,←?vW]at r1;rw[←?o5]at r0;have p:=?a1 l h2),.(by have z:?yX q:=fun w=>Fm hp hq ne ?vP),.(by obtain⟨g,hg⟩:=ihm O9m;exact⟨g*T m (t m),by show ?m4*T m (t m)=_;rw[hg,qe1]⟩),.(by show ?d2*?lM+?iD*R ?cD ?m=0),.(by have zb:?bI+?r*?bM=(?gV)+π+1:=?uT),.(by rw[show ?mS=0 from ?jY l k hl (qb3 z (Z6.mono k l ?c hl))];simp),∀(hr:?dM)(hst:?tX)(hz:∀i c,?aI->?qJ)(s2:Ec w n (tr T') ?gO),a,∀{x y z u:Int}(hx:x.natAbs<?gM)(hy:y.natAbs<?gM)(hz:z.natAbs<?gM)(hu:u.natAbs<?gM),a,.(by have e0:XW A B A 1 0 B 0 1:=?tZ),.(by rcases h with h|⟨hB,e1,e2,e3,e4,e5,e6⟩|⟨hB,e1,e2,e3,e4,e5,e6⟩),.(by rw[Fm (p:=j) (q:=k) ?c hk hne ?tK,qe2];rw[Bi,Bt hne]),.(by have he:0<?e4:=Cw fun j hj=>?hP),∀{i:Nat}{T V Z:Mat}(h:∀r c,r<i->c<i->?e1=Ai (fun j=>T r j*Z j c) (r+1)),a,.(by have t1:∀j,j<i->?cK t i ?bK j=t j:=fun j hj=>?n hj),∀(hc:?oO)(Kr:?oF),a,.(by have d:=H.hd l h2;rw[←?vW]at d;omega),.(by rw[e0,BK _ hk,?aP (j:=k) ?c ?m1]),.(by rw[←?N,←?N,←?N,←?N,z u,z v]at e0;omega),.(by intro _;exact⟨0,?bV,?eX,fun j _ hj=>O9m⟩),∀(h:∀l,f<=l->l<m->?t3),a,.(by exact ?z9 x0),.(by intro hm;obtain⟨r,a,b,c⟩:=?bB;by_cases z:t m<w),.(by rw[?b6,Id];have:R j k=(a*d-b*c)*R j k:=?m8),∀(h:?wN)(ht:?vA){v:?l}(hv:In W i R v),a,.(by rw[?aJ ?d c ?h hs];exact H.rw ?d c hs hc),.(by refine qj1 a (qg9 ?nR);have:=c r ?h y),∀(hst:?tT)(hz:?uD),a,.(by show _=?jJ*?Z*_;rw[qe1]),.(by have:=?d7 j ?d ?J O9m hs;omega),∀(G:?a3)(M B0:Mat)(kt:?x)(hd:?l),a,∀(hp:p<lo)(hm:m<=lo)(hn:?gW)(hpf:p<f\/m<=p),a,∀(hp:p<lo)(hq:q<lo)(hn:?gW)(ne:?cP),a,∀(he:?qL=q*?uN),a,∀(hE:?g ?eR r<=E),a,∀(h:?yD EuI r2),a,@(BB n W C δ ?a ?b),@(show ?a≠?b by omega),@((if ?a=?b then ?bL else 0)=0),@(det n (Bx A p ?a)),@(?a (if l<k then l else l+1)),@(∀l,?bD->l<i->(?t R ?d i x y z u ?a ?m).natAbs<=?W*(?t R ?d i x y z u l ?m).natAbs),@(?O n W w lo R B ?a ?b),@(?e (fun z=>?a ?b4)),@(fun m hm=>?a R O9m O9m ne ?b),@(fun j=>?a j ?b),@(Qh R t k ?a ?b),@(Dj n W w i G R0 B0 t π b ?r ?a ?b),@(A (if r<?a then r else r+1) ?P),@(∀j,j<i->(?a).natAbs<=?b),@(Ai (fun k=>x k*?a) ?b),@((det i ?a).natAbs<=?b),@(Ai (fun l=>(T l ?aN*?e2)*(if d=l then 1 else 0)) ?a),@(fun d hd=>(?a d hd).mono ?hK),@(Bx (Bx R j (R ?I)) ?I (R ?a)),@(?a A B r2 x2 y2 (?fA) (x1-?b5*x2) (y1-?b5*y2)/\?mJ),@(?a A B r1 x1 y1 ?b x2 y2),@(β+?a*(?i*(i+1+Y+2))),@(show ?a<i+1 by omega),@((if r<?a then r else r+1)=p),@(Ai (fun k=>(if k<r then X k i else 0)*T c k) ?a),@(by rw[show ?a=(?b-2)+2 by omega,qd7];simp;try omega),@(Nk n i β c t R B ?a ?b),@(fun k c hk hc=>?a k c hk (by rw[?b k hk];exact hc)),@(fun r l=>?a r ?a5),@(?u (R:=?a) hj),@(?rW (show A+1<=-(?F) by omega) ?a O9m O9m),@((∀j,j<r->t j<w)/\∀j,?a6->j<?a->w<=t j),@(fun j hj=>?a j O9m),@(?jY c k ?a (by have:=Z6.inc k c O9m ?b;omega)),@(?d7 ?a (k-1) ?J O9m O9m),@(Eu ?a u v 1 1 ?b),@(by rw[qd7];exact qp0 ?a ?b),@(show ?a<=?b by omega),@(g6 n W w i G R B t b p ?d μ ?a R' B'),@(Dj n W w i G R0 B0 t π b ?r (?a).1 (?b).2),@(∀w:?l,det n (Bx (Bx A p w) ?a w)=0),@(fun r c hr=>(?a r c hr).trans (?b r c hr)),@(LK W n R ?a),@(?t R p q a b c d ?a k),@(?a l O9m h2),@(Cc n W w r ?i G M B0 kt hd ?a R2 B2),@(∀c,c<n->?aF=A ?a c),@(show 0<=-?a by omega),@(fun m hm=>?a ?b O9m),@(by have:=?tN ?a ?b;rw[qf9]at this;omega),@(?a R p q a b c d ?b),@(Cc n W w r ?a G M B0 kt hd t R B),@(?D fun l hl=>by rw[?a l ?c];simp),@(?D fun k hk=>by rw[x0 k ?a];simp),@(pT n ?a ?b a b=?h4),@(_*(if m<w then T m m else 0)=?a),@(T i d*(if c=d then e else 0)=?a),@(fun m hm=>(?a m hm).trans (?b m hm)),@(qa6 (Nat.log2_self_le O9m) ?a),@(T k ?aN*?a*(if d=k then ?b else 0)),@((if r<?a then ?dP else ?dQ)=_),@(dot n w ?a ?b),@(det i (dI V Z ?a)),@(Eu (Bx A q ?a) ?X ?b0 a b hp),@(?z R i ?d ?a ?b),@(?j ?iA j i ?iK ?a),@(?dH ?a i ?aE ?b),@(?aM n W ?a ?b),@(?O n W w ?a ?b B0 R B),@(∀d,?eI->?xT ?eV (?y t ?a ?r ?b d)),@(BB n W C δ (?yE ?a) (?b)),@(?t B p q d (-c) (-b) ?a),@(det n ?a),@(?y t ?a ?r ?b ?aB),@(?g (?y2 ?a j) ?b),@(In n w ?c6 (?M ?a i)),@((?y2 T' ?a8) ?a=0),@(fun c=>?a),@((?a).natAbs<=?b),@(?zT ?a=- ?zT (Bx (Bx A p v) ?b u)),@(det i ?a),@(?y t ?Q ?cZ ?a ?b)])
def Us[?bR](T Mg:Mat):Prop:=∃T',?kH/\Ec w n (fun i j=>T' j i) (fun i j=>Mg j i)
def Straight[?bR](T:Mat):Prop:=∀i j,i<n->j<w->?fT->T i j=0
theorem Us.next{n w k:Nat}[?nF](h:?nQ):?oR/\(?sC n w Mg\/?q6):=by
 obtain⟨T',s1,s2⟩:=s;obtain⟨h1,_,h3⟩:=s1.keep h;obtain⟨g1,_,g3⟩:=?r7;have hc:?oR:=g1.flip;refine⟨hc,?_⟩;obtain⟨r,t,FQ,hst,hz⟩:=s1.st;obtain⟨q,u,hqw,Z6,nH⟩:=s2.st;obtain⟨kr,ht⟩:=?o3;obtain⟨kq,hu⟩:=?qD;by_cases e:k<r
 . right;have p:=?iS k e;have tw:=?c9 k e;have tk:k<=t k:=?eM k e;have hin:=(?h6 ?a8 tw).sub hqw nH;obtain⟨x,hx⟩:=id hin
   have v0:∀l,l<k->?zX ?h1:=fun l hl=>by
    show T' ?h1 ?a8=0;rw[hu l hl];exact ?iG l ?a8 hl tw O9m
   obtain⟨x0,_⟩:=Z6.lead hx k kq v0;have hkn:k<n:=O9m
   have YE:k<q:=by
    ext g5
    have:T' k ?a8=0:=by
     show ?zX k;rw[?u2];ext xE
    omega
   have huk:u k=k:=by
    refine ?uJ
    have:T' k ?a8=0:=by
     show ?zX k;rw[?u2];ext nC;by_cases e2:l<k
     . rw[x0 l e2];simp
     . show x l*?mS=0;ext wZ
    omega
   have p2:=?pU;rw[huk]at p2;refine⟨hc,hkn,O9m,p2,?u8⟩;rcases qg5 c k with z | z
   . exact hc.2.2.2.2 k c hkn z O9m
   . by_cases e3:c<q
     . exact ?yQ e3 e3
     . exact nH c k O9m hcw hkn
 . left;have T'0:∀i c,k<=i->?qJ:=fun i c hi hin hcw=>hz i c O9m hin hcw;intro i j hi hj hne;rcases qg5 i k with z | z
   . exact hc.2.2.2.1 i j z hj (fun w=>hne w.symm)
   . obtain⟨y,hy⟩:=s2.fwd j hj;have:Mg i j=Ai (fun l=>y l*T' i l) w:=hy i hi;rw[this];exact ?D fun l hl=>by rw[T'0 i l z hi hl];simp
theorem Us.less{n w k:Nat}[?nF](h:?sK):Mh n w ?aC Mg\/(?q6/\?f5∣ ?Z/\?f5<?Z):=by
 obtain⟨hcl,hn,hw,hp,hr⟩:=h;have s0:=s;obtain⟨T',s1,s2⟩:=s;obtain⟨h1,_,h3⟩:=s1.keep hcl;obtain⟨r,t,FQ,hst,hz⟩:=s1.st;obtain⟨kr,ht⟩:=?o3;have hin:=(s1.bwd k hn).sub FQ hz;obtain⟨x,hx⟩:=id hin;have v0:∀l,l<k->T k ?m=0:=fun l hl=>by rw[ht l hl];exact hr l O9m O9m
 obtain⟨x0,a2⟩:=?k3 hx k kr v0
 have hlt:k<r:=by
  ext g5
  have:?Z=0:=by
   rw[hx k hw];ext xE
  omega
 have htk:t k=k:=by
  refine qj1 ?i3 (?eM k hlt)
  have:?Z=0:=by
   rw[hx k hw];ext nC;by_cases e:l<k
   . rw[x0 l e];simp
   . rw[?d6 l k hl (qb3 z (?s1 k l ?c hl))];simp
  omega
 have e1:=a2 hlt;rw[htk]at e1;have pk:=?iS k hlt;rw[htk]at pk;have d1:?cJ∣ ?Z:=⟨x k,by rw[e1,qf9]⟩
 have le1:=ql4 hp d1
 have below:∀i,i<n->i≠k->T' i k=0:=fun i hi hne=>by
  rcases qg5 i k with z | z
  . exact ?iG i k z hw O9m
  . by_cases e3:i<r
    . exact ?d6 i k e3 (by have:=hst.inc k i O9m e3;omega)
    . exact hz i k O9m hi hw
 by_cases same:?cJ=?Z
 . left;have row:∀c,c<w->?dA=T' k c:=hst.only hin hlt v0 (by rw[htk];exact same.symm) (fun l hl1 hl2=>hr ?m (?c9 l hl2) (by have:=hst.inc k l hl1 hl2;omega))
   have cl':Mh n w ?aC T':=by
    refine⟨O9m,O9m,?V,fun j c hj hcw hne=>?_,fun i j hi hj hne=>?_⟩
    . ext eA
      . subst e;exact pk
      . exact h1.2.2.1 j O9m
    . ext eA
      . subst e;rw[←row c hcw];exact hr c hcw hne
      . exact ?iG j c O9m hcw hne
    . ext eA
      . subst e;exact below i hi hne
      . exact h1.2.2.2.2 i j hi O9m hne
   exact(s2.keep cl'.flip).1.flip
 . right;have WA:?cJ<?Z:=O9m
   obtain⟨hc2,q2⟩:=s0.next hcl;obtain⟨g1,_,g3⟩:=?r7;obtain⟨q,u,hqw,Z6,nH⟩:=s2.st;obtain⟨kq,hu⟩:=?qD;have Ax5:=(?h6 k hw).sub hqw nH;obtain⟨y,hy⟩:=id Ax5
   have w0:∀l,l<k->(?y2 T' k) ?h1=0:=fun l hl=>by
    show T' ?h1 k=0;rw[hu l hl];exact ?iG l k hl hw O9m
   obtain⟨y0,b2⟩:=Z6.lead hy k kq w0;have hyk:?cJ=Ai (fun l=>y l*?mS) q:=hy k hn
   have YE:k<q:=by
    ext g5
    have:?cJ=0:=by
     rw[hyk];exact ?z9 y0
    omega
   have huk:u k=k:=by
    refine ?uJ
    have:?cJ=0:=by
     rw[hyk];ext nC;by_cases e2:l<k
     . rw[y0 l e2];simp
     . ext wZ
    omega
   have e3:T' (u k) k=y k*?t2:=b2 YE;rw[huk]at e3;have p2:0<?t2:=?pU;rw[huk]at p2;have d2:?f5∣ ?cJ:=⟨y k,by rw[e3,qf9]⟩
   have le2:=ql4 pk d2;refine⟨⟨hc2,hn,hw,p2,?u8⟩,qv4 d2 d1,O9m⟩;rcases qg5 c k with z | z
   . exact hc2.2.2.2.2 k c hn z O9m
   . by_cases e4:c<q
     . exact ?yQ e4 e4
     . exact nH c k O9m hcw hn
def Rr(i:Nat):Int:=if i%2=0 then 1 else -1
theorem W1(i:Nat):Rr ?i=- Rr i:=by
 unfold Rr;by_cases h:i%2=0
 . rw[?k,?n h]
 . rw[?G,?e h];rfl
theorem V6(i:Nat):(Rr i).natAbs=1:=by unfold Rr;split<;>rfl
def Fz(A:Mat)(i:Nat):Mat:=fun r c=>?l0
def det:Nat->Mat->Int
 | 0,_=>1
 | n+1,A=>?f8
theorem C7:∀{n:Nat}{A B:Mat},(∀r c,r<n->c<n->?e5=B r c)->?aS=?zT B
 | 0,_,_,_=>rfl
 | n+1,A,B,h=>by
   refine ?lP;rw[h i 0 hi ?c,C7 (n:=n) (A:=Fz A i) (B:=Fz B i)];intro r c hr hc;exact ?nU
def Bx(A:Mat)[?nH]:Mat:=fun r c=>if r=p then u c else ?e5
theorem Bi(A:Mat)[?nH](c:Nat):Bx A p u p c=u c:=?o
theorem Bt{A:Mat}{p r:Nat}{u:?l}(h:?cC)(c:Nat):Bx A p u r c=?e5:=?e h
theorem Sl{A:Mat}{p i:Nat}{u:?l}(h:i≠p):Fz ?fR i=Bx (Fz A i) ?c3 (?zY ?fW):=by
 funext r c
 show(if ?yG i then ?fW else ?l0)=if r=?c3 then ?fW else ?l0
 have e:(?yG i)↔(r=?c3):=by
  split<;>split<;>omega
 by_cases z:r=?c3
 . rw[?aD,?n (e.mpr z)]
 . rw[?a0,?e fun w=>z (e.mp w)]
theorem Ib{A:Mat}{p:Nat}{u:?l}:Fz ?fR p=Fz A p:=by
 funext r c
 show(if ?yG p then ?fW else ?l5)=?l5;rw[?e ?a2]
theorem Eu:∀{n p:Nat} (A:Mat) [?gA] (a b:Int),p<n->?xW ?i0=a*?zT ?fR+b*?xW v
 | n+1,p,A,u,v,a,b,hp=>by
   show ?hJ=a*?hJ+b*?hJ;rw[←Ay,←Ay,←Cd];refine ?lP;by_cases e:i=p
   . subst e;rw[Bi,Bi,Bi,Ib,Ib,Ib]
     grind
   . rw[?dJ,?dJ,?dJ,Sl e,Sl e,Sl e];rw[Eu (Fz A i) (?zY ?fW) (fun c=>v ?P) a b ?a2]
     grind
theorem Gp(A:Mat)(p:Nat):?rK=A:=by
 funext r c
 unfold Bx;split
 . rename_i h;rw[h]
 . rfl
theorem Cf{A:Mat}{p q:Nat}(h:?cP)[?gA]:?p7=Bx (Bx A q v) p u:=by
 funext r c
 unfold Bx;by_cases e:r=q
 . rw[?fV,?k,?fV]
 . rw[?eP,?eP]
theorem bM:∀[?j6],p+1<n->(?z3 ?a7)->?iO
 | n+1,p,A,hp,h=>by
   show ?f8=0
   have same:?m7=?mU:=C7 fun r c hr hc=>by
    show ?l5=A (if r<p+1 then r else r+1) ?P;by_cases e:r=p
    . subst e;rw[?k,?G];exact(?i2).symm
    . by_cases e2:r<p
      . rw[?d9,?G]
      . ext n8
   have two:?f8=Ai (fun i=>((if i=p then 1 else 0)*(Rr p*A p 0*?m7))+((if i=p+1 then 1 else 0)*(Rr ?a7*A ?a7 0*?mU))) ?B:=by
    refine ?lP;by_cases e1:i=p
    . subst e1;rw[?o,?k];simp
    . by_cases e2:i=p+1
      . subst e2;ext iV;simp
      . rw[?Y,?bU]
        have z:?rL=0:=by
         refine bM (p:=?s3) ?a2 ?dE;show A (if ?c3<i then ?c3 else ?gL) ?P=A (if ?gL<i then ?gL else ?gL+1) ?P;by_cases e3:p<i
         . rw[?lC,?lC,?G];exact ?i2
         . rw[?e e3,?k,?k,show p-1+1=p by omega];exact ?i2
        rw[z];simp
   rw[two,Cd,Da (fun _=>Rr p*A p 0*?m7) p ?B,?G,Da (fun _=>Rr ?a7*A ?a7 0*?mU) ?a7 ?B,?G];rw[W1,←same,←h 0 ?c]
   grind
theorem z9[?j6](hp:p+1<n)[?gA]:?A0 (Bx ?fR ?a7 v) ?a7:=by
 have ne:p≠p+1:=O9m
 have z:?yX ?a7:=fun w=>bM hp ?vP
 have e0:=z fun c=>1*u c+1*v c;rw[?yS (Bx A p _) hp,?N,?N,?yS (Bx A ?a7 u) ?c,?yS (Bx A ?a7 v) ?c]at e0;ext xB
theorem bK:∀(d:Nat) [?j6],p+d+1<n->(?z3 (p+d+1))->?iO
 | 0,n,p,A,hp,h=>bM hp h
 | d+1,n,p,A,hp,h=>by
   have e:A=Bx (Bx A (p+d+1) (A (p+d+1))) (p+d+1+1) (A (p+d+1+1)):=?p2
   rw[e,z9 ?c];rw[bK d (p:=p) ?c ?dE]
   . rfl
   . rw[?dV,?dV,?dV,Bi];exact ?m6
theorem Fm[?b8]{A:Mat}[?b9](hq:q<n)(hne:?cP)(h:?z3 q):?iO:=by
 rcases qg5 p q with z | z
 . exact bK (q-p-1) (p:=p) O9m (by rw[show p+(q-p-1)+1=q by omega];exact h)
 . exact bK (p-q-1) (p:=q) O9m (by rw[show q+(p-q-1)+1=p by omega];exact fun c hc=>(?m6).symm)
theorem rQ[?b8](A:Mat)[?b9](hq:q<n)(hne:?cP)(k:Int):?xW ?nW=?aS:=by
 have:=Eu A ?X ?b0 1 k hp;rw[Gp,Fm (A:=?tC) hp hq hne fun c _=>by rw[Bi,Bt (?vH)]]at this;rw[←show(fun c=>1*?aF+k*A q c)=?nW from ?U (?zY ?rR),this];omega
theorem DU[?b8]{A:Mat}[?R][?gA]:?A0 (?p7) q:=by
 ext wV
 have e0:=z fun c=>1*u c+1*v c;rw[?yS (Bx A p _) hq,?N,?N,?yS (Bx A q u) hp,?yS (Bx A q v) hp]at e0;ext xB
theorem RO{n p:Nat}(A:Mat)[?b9]:?xW ?rE=- ?aS:=by
 have:=Eu A ?X ?X ?cI 0 hp;rw[Gp]at this;rw[show(?rE)=fun c=>-1*?aF+0*?aF from ?U (?zY ?lF),this];omega
theorem kL[?b8](A:Mat)[?R][?bP](h:a*d-b*c=1) :
 ?zT (Bx (Bx A p fun k=>a*A p k+b*A q k) q fun k=>c*A p k+d*A q k)=?aS:=by
 ext wV
 have e:?zT (Bx (?rK) q ?b0)=?aS:=?p2
 have e2:=DU (A:=A) hp hq ne ?X ?b0;rw[Eu _ ?X ?b0 c d hq,?N,?N,?zK ?X,?zK ?b0];rw[←?N,←?N,←?N,←?N,z ?X,z ?b0];rw[e]at e2 ⊢;have e3:?zT (Bx (?tC) q ?X)=- ?aS:=O9m
 rw[e3]
 grind
def prodN[?aY]:?l
 | 0=>1
 | n+1=>?hO
theorem U4[?aY]:∀n,?kA=f 0*?uO
 | 0=>by simp[prodN]
 | n+1=>by
   show ?kA*f ?B=f 0*(?uO*f ?B);rw[U4 f n,qe1]
theorem We:∀{n:Nat}{A:Mat},(∀r c,r<n->c<r->?e5=0)->?aS=?zV A n
 | 0,_,_=>rfl
 | n+1,A,h=>by
   show ?f8=_;rw[?aP (j:=0) ?c fun k hk hne=>by rw[h k 0 hk ?c];simp,U4]
   rw[We (n:=n) (A:=Fz A 0) fun r c hr hc=>by
    show ?y5 0=0;ext aX;exact h _ _ ?c ?c]
   show 1*A 0 0*?g (fun j=>A (if j<0 then j else j+1) ?I) n=_;rw[qd0];rfl
def bJ:?x
 | 0=>1
 | n+1=>?qU
theorem N7[?S]{M:Nat}:∀{n:Nat},(∀k,k<n->?oQ<=M)->(?fB).natAbs<=n*M
 | 0,_=>by simp[Ai]
 | n+1,h=>by
   have a:=N7 (n:=n) ?dG;have b:=?lE;have c:=qf2 (?fB) (f n);show(?fB+f n).natAbs<=?B*M;rw[qf4,qf3];omega
theorem nU:∀{n:Nat}{A:Mat}{B:Nat},(∀r c,r<n->c<n->?q2<=B)->?pJ<=?rA
 | 0,_,_,_=>by simp[det,bJ]
 | n+1,A,B,h=>by
   show(?hJ).natAbs<=?qU*B ^ ?B
   have:?vT<=?B*(B*(?rA)):=by
    refine N7 ?vU;rw[qb0,qb0,V6,qf3];exact qf0 (h i 0 hi O9m) (nU fun r c hr hc=>?nU)
   refine qa6 ?K ?w6;rw[qg4]
   grind
structure Hx(i:Nat)(R:Mat)[?v]:Prop where
 inc:∀j k,j<k->k<i->?jD
 zero:?s2
 pos:?pF
theorem C8.s0{w r:Nat}{R:Mat}[?f](h:?nS):Hx r R t:=⟨?iE,?aR,?a1⟩
theorem Hx.low[?gB][?f][?gC]{j l:Nat}(hj:j<i)(hl:l<j):?dF=0:=?aR j _ hj (?iE l j hl hj)
theorem Sy:∀[?j6],p<n->(∀c,c<n->?aF=0)->?iO:=fun {n p A} hp h=>by
 have:=Eu A ?X ?X 0 0 hp;rw[show(fun c=>0*?aF+0*?aF)=?pT from ?U (?zY ?lF)]at this
 rw[show ?aS=?xW ?hA from C7 fun r c hr hc=>by
  unfold Bx;split
  . rename_i e;rw[e];exact ?m6
  . rfl,this]
 omega
theorem Cw[?S]:∀{n:Nat},(?lA)->0<?bY
 | 0,_=>?vC
 | n+1,h=>?mT (Cw ?dG) (?lE)
def pb(R:Mat)[?v](k:Nat):?l
 | 0=>1
 | m+1=>?hQ
def Qh(R:Mat)[?v](k:Nat):Nat->(?l)
 | 0=>R k
 | m+1=>fun c=>?d2*?y3 m c+?iD*R ?cD c
section
variable[?gB][?f][?gC]
include h
theorem MH{k:Nat}:∀{m:Nat},?e0->0<?eJ
 | 0,_=>?vC
 | m+1,hm=>?mT (?a1 _ O9m) (MH O9m)
theorem bU{k l:Nat}(hl:l<k):∀{m:Nat},?e0->?lM=0
 | 0,hm=>?bA hm hl
 | m+1,hm=>by
   ext wX;rw[bU hl ?c,?sW];simp
theorem DY{k:Nat}:∀{m:Nat},?e0->?qQ=?eJ*?hI
 | 0,_=>by show ?hI=1*?hI;omega
 | m+1,hm=>by
   show ?d2*?qQ+?iD*R ?cD ?a8=?hQ*?hI;rw[DY ?c,?bA (j:=?eO) (l:=k) ?c ?c,qe1];simp
theorem bT{k:Nat}:∀{m l:Nat},?e0->k<l->l<=k+m->?lM=0
 | 0,l,_,h1,h2=>O9m
 | m+1,l,hm,h1,h2=>by
   ext wX;by_cases e:l=?eO
   . subst e;rw[qf9,qn3];omega
   . rw[bT ?c h1 ?c,?sW];simp
theorem oE{W:Nat}{k:Nat}:∀{m:Nat},?e0->In W i R (Qh R t k m)
 | 0,hm=>?u hm
 | m+1,hm=>(oE O9m).mix ?sS _ _
theorem IJ{k:Nat}(s:?x):∀{m:Nat},?e0->?A1 (Bx ?cB k ?oV)=?eJ*?A1 ?cB
 | 0,hm=>by
   show ?A1 (Bx ?cB k (?cB k))=1*_;rw[Gp];omega
 | m+1,hm=>by
   show ?A1 (Bx ?cB k fun c=>?d2*?pR+?iD*?tL)=_;rw[Eu ?cB (?oV) (?vR) _ _ ?c,IJ s ?c];rw[Fm (p:=k) (q:=?eO) (A:=Bx ?cB k ?vR) ?c ?c ?c fun c _=>by rw[Bi,?dV]];show _=?hQ*_;rw[qe1];omega
universe e9
theorem skip_prod[?S]{k:Nat}:∀(n:Nat),k<=n->?g (fun l=>?xX f) n=?cM*?pL
 | 0,h=>by
   have:k=0:=O9m
   subst this;simp[prodN]
 | n+1,h=>by
   by_cases e:k=n+1
   . subst e;rw[show n+1-?B=0 by omega];show ?g _ ?B=?kA*1
     have:∀m,m<=n+1->?g (fun l=>f (if l<n+1 then l else l+1)) m=?aV:=by
      intro m
      induction m with
      | zero=>intro _;rfl
      | succ m ih =>
        intro hm;show ?m4*f (if m<n+1 then m else m+1)=?aV*f m;rw[?f7,?G]
     rw[?K _ ?h];omega
   . show ?g _ n*f (if n<k then n else n+1)=_;rw[?uW n ?c,?k,show n+1-k=?dZ+1 by omega];show _=?cM*(?pL*f (k+1+?dZ));rw[show k+1+?dZ=n+1 by omega,qe1]
theorem aR(R:Mat)[?v](k:Nat):∀m,?eJ=?g (fun l=>R (k+1+l) (t (k+1+l))) m
 | 0=>rfl
 | m+1=>by
   show ?hQ=?m4*?d2;rw[aR R t k m,qf9]
def j8[?v](k c:Nat):?x
 | 0=>c
 | l+1=>?xX t
theorem XI[?gB][?f][?gC]{k c:Nat}(hk:k<i){D:Nat}(hD:?y8 ?gP D):(?y3 ?kD c).natAbs<=D:=by
 have hm:k+?kD<i:=O9m
 have e1:=IJ h (k:=k) (j8 t k c) hm
 have hu0:∀l,l<i->l≠k->?y3 ?kD ?m=0:=fun l hl hne=>by
  rcases qg5 l k with z | z
  . exact bU h z hm
  . exact bT h hm O9m O9m
 obtain⟨n,rfl⟩:∃n,i=n+1:=?t7
 have e2:det ?B (Bx (?gP) k fun l=>?y3 (n+1-1-k) (j8 t k c l))=Rr k*?y3 (n+1-1-k) c*?g (fun l=>R (if l<k then l else l+1) (?xX t)) n:=by
  show Ai (fun j=>Rr j*Bx _ k _ j 0*?zT (Fz (Bx _ k _) j)) ?B=_;rw[?aP (j:=k) hk ?m1]
  . rw[Bi,Ib]
    congr 1
    refine We fun r l hr hl=>?_;show R (if r<k then r else r+1) (?xX t)=0;refine ?bA ?a2 ?_;split<;>split<;>omega
  . rw[Sl hne,Sy (p:=if k<j then k else k-1) ?a2 ?hF]
    . simp
    . rw[Bi];show Qh R t k (n+1-1-k) (?xX t)=0;exact hu0 _ ?a2 ?a2
 rw[e1]at e2;rw[?uW (f:=?iH) n ?c,←aR,?nP]at e2;rw[?nP];have pp:=MH h (k:=k) (m:=n-k) O9m;have qp:0<?t1:=Cw fun j hj=>?hS;have e3:=?uM ?uP e2;rw[qb0,qb0,qb0,qb0,V6,qf3]at e3;have p1:0<?cO:=O9m
 have q1:1<=?rX:=O9m
 have:?cO*?m2<=?cO*D:=by
  calc ?cO*?m2<=?m2*(?rX*?cO):=by
        rw[?wI ?cO];exact qe3 _ (ql7 _ q1)
   _=?cO*(det ?B ?gP).natAbs:=e3.symm
   _<=_:=qe3 _ hD
 exact qq9 ?K p1
theorem y4[?gB][?f][?gC]:?A1 ?fS=?f6:=We fun r c hr hc=>?bA hr hc
theorem Xd[?S]:∀{n j:Nat},(?lA)->j<n->f j<=?bY
 | n+1,j,h,hj=>by
   have p:=Cw (n:=n) ?dG;have q:=?lE;show f j<=?hO;by_cases e:j=n
   . subst e;have:1*f j<=?g f j*f j:=?uR;omega
   . have ih:=Xd (n:=n) (j:=j) (?dG) O9m;have:?bY*1<=?hO:=?wP;omega
theorem rH[?gB][?f][?gC]{D:Nat}(hD:?y8 ?lH D){j:Nat}(hj:j<i):?C<=D:=by
 rw[y4 h]at hD;have a:=Xd (f:=?iH) (fun k hk=>?k1) hj;have b:=Cw (f:=?iH) (n:=i) (fun k hk=>?k1);omega
theorem Hx.none{W i:Nat}{R:Mat}[?f][?xH](h0:∀j,j<i->v ?p=0):∀c,c<W->v c=0:=by
 obtain⟨x,hx⟩:=hv
 have x0:∀m,m<=i->∀j,j<m->x j=0:=by
  intro m
  induction m with
  | zero=>intro _ j hj;omega
  | succ m ih =>
    intro hm j hj;by_cases e:j<m
    . exact ih O9m j e
    have ej:j=m:=O9m
    subst ej;have e1:=hx ?p (ht j O9m);rw[h0 j ?c,?aP (j:=j) ?c fun k hk hne=>?_]at e1
    . rcases qo2.mp e1.symm with z | z
      . exact z
      . have:=?hS;omega
    . by_cases e2:k<j
      . rw[ih ?c k e2];simp
      . rw[?bA hk ?c];simp
 intro c hc;rw[?lU];exact ?D fun k hk=>by rw[x0 i ?h k hk];simp
theorem In.sum{W i:Nat}{R:Mat}{a:?l}{U:Mat}:∀{m:Nat},(∀j,j<m->In W i R (U j))->In W i R (?zY ?jH)
 | 0,_=>?hR W i R
 | m+1,h=>by
   have:=(?k4 (a:=a) (U:=U) (m:=m) (?yP h)).mix (h m O9m) 1 (a m)
   exact this.congr fun c _=>by
    show 1*?jH+?eE=?jH+?eE;omega
theorem Q8[?aY]:∀(n k:Nat),k<n->?bY=?cM*(?kQ*f k)
 | n+1,k,h=>by
   by_cases e:k=n
   . subst e;rw[show k+1-1-k=0 by omega];show ?cM*f k=?cM*(1*f k);rw[qd0]
   . show ?hO=_;rw[Q8 f n k ?c,show n+1-1-k=?fJ+1 by omega];show _=?cM*(?g _ ?fJ*f (k+1+?fJ)*f k);rw[show k+1+?fJ=n by omega]
     grind
theorem Ab3[?S]:∀{n k:Nat},(∀l,l<n->0<f l)->k<n->?cM*f k<=?bY:=fun {n k} h hk=>by
 rw[Q8 f n k hk];have a:=Cw (n:=k) fun l hl=>h l O9m;have b:0<?kQ:=Cw fun l hl=>?i2;have c:=h k hk;have d:1*f k<=?kQ*f k:=?uR;rw[qd0]at d;exact ql6 d O9m
theorem pN{W i:Nat}{R:Mat}[?f][?xH]{κ D c:Nat}(hc:c<W)(hκ:∀j,j<i->?pZ<=κ*?cG)
 (hD:∀k,k<i->?y8 ?gP D):(v c).natAbs<=i*?l1:=by
 have hp:∀l,l<i->0<?eZ l:=fun l hl=>?a1 l hl;have EP:=Cw (n:=i) hp
 have key:?f6*v c=?kR:=by
  have hin:In W i R (?zY ?wE) :=
   hv.mix (?k4 (a:=fun j=>v ?p*?eG) (U:=fun j=>Qh R t j ?kL) fun j hj=>oE h O9m) _ _
  have:=h.none ht hin (fun m hm=>?_) c hc
  . show _=_;have t:?wE=0:=this;omega
  . show ?f6*v (t m)+?cI*Ai (fun j=>(v ?p*?eG)*?oE) i=0;rw[?aP (j:=m) hm ?m1]
    . rw[DY h ?c,aR,Q8 ?eZ i m hm]
      grind
    . have:?oE=0:=by
       rcases qg5 m j with z | z
       . exact bU h z O9m
       . exact bT h O9m O9m O9m
      ext b7
 have e:=?uM ?uP key;rw[qb0]at e
 have le:(?kR).natAbs<=i*(?m3*?l1):=by
  refine N7 ?V;rw[qb0,qb0];have a1:=hκ j hj;have a2:=XI h hj (hD j hj);have a3:=Ab3 hp hj;have a4:=Cw (n:=j) fun l hl=>hp l O9m;have a5:=hp j hj
  have a6:?i7*?cG<=?m3:=by
   rw[←qb0];have:0<?eG*?C:=?mT a4 a5;omega
  calc ?pZ*?i7*(?vN).natAbs
   ≤ κ*?cG*?i7*D:=qf0 (qb4 _ a1) a2
   _=?i7*?cG*?l1:=?w
   _<=_:=qb4 _ a6
 rw[←e]at le;have E1:0<?m3:=O9m
 refine qq9 (qa6 le ?w6) E1
 grind
theorem In.trans{W n m:Nat}{R R':Mat}{v:?l}(hv:In W n R v)(h:∀j,j<n->In W m R' (R j)):In W m R' v:=by
 obtain⟨x,hx⟩:=hv;exact(?k4 (a:=x) (U:=R) h).congr fun c hc=>(?lU).symm
def LK(W n:Nat)(R R':Mat):Prop:=(∀j,j<n->In W n R (R' j))/\(∀j,j<n->In W n R' (R j))
theorem LK.refl(W n:Nat)(R:Mat):?yZ R:=⟨?pM,?pM⟩
theorem LK.trans{W n:Nat}{R S T:Mat}(h1:?yZ S)(h2:LK W n S T):?yZ T:=⟨fun j hj=>(h2.1 j hj).trans h1.1,fun j hj=>(h1.2 j hj).trans h2.2⟩
def E6(n:Nat)(R R':Mat):Prop:=∀s:?x,(det n (?yL R')).natAbs=(?zT ?mP).natAbs
theorem E6.refl(n:Nat)(R:Mat):E6 n R R:=fun _=>rfl
theorem E6.trans{n:Nat}{R S T:Mat}(h1:E6 n R S)(h2:E6 n S T):E6 n R T:=fun s=>(h2 s).trans (h1 s)
theorem Lr(R:Mat)[?nH](s:?x):(fun r l=>Bx R p u r ?a5)=Bx ?hE p (fun l=>u ?a5):=by
 funext r l
 unfold Bx;split<;>rfl
def addR[?cV](k:Int):Mat:=Bx R p ?u7
theorem Cg[?cV](k:Int)(c:Nat):?j R p q k p c=?wH:=Bi ..
theorem C4[?j4]{k:Int}(h:?cC)(c:Nat):?j R p q k r c=?aK:=Bt h c
theorem sD[?b8](R:Mat)[?R](k:Int):E6 n R ?cH:=fun s=>by
 unfold addR;rw[Lr];have:=rQ ?hE hp hq ne k;rw[show(fun l=>1*R p ?a5+?nO)=fun l=>R p ?a5+?nO from ?U fun l=>?rR,this]
theorem SA{W n p q:Nat}(R:Mat)[?R](k:Int):?yZ ?cH:=by
 ext iU
 . ext eB
   . subst e;exact(?jG ?p8 1 k).congr fun c _=>(Cg R j q k c).symm
   . exact ?eL fun c _=>(?mQ).symm
 . ext eB
   . subst e;refine((?yM ?vM).mix (?u (R:=?vM) hq) 1 (-k)).congr ?tK;rw[Cg,C4 ?e3];show 1*(1*?c5+k*R q c)+-k*R q c=?c5;rw[qn3];omega
   . exact(?yM ?tP).congr fun c _=>?mQ
def Ge(R:Mat)(p:Nat):Mat:=Bx R p fun c=>- ?aO
theorem qR{n p:Nat}(R:Mat)[?b9]:E6 n R ?dL:=fun s=>by
 unfold Ge;rw[Lr,RO ?hE hp,qc2]
theorem qQ{W n p:Nat}(R:Mat)[?b9]:?yZ ?dL:=by
 ext iU
 . ext eB
   . subst e;exact(?jG (?fU) ?cI 0).congr ?tM
   . exact ?eL fun c _=>(Bt e c).symm
 . ext eB
   . subst e;exact((?p4).mix (?p4) ?cI 0).congr ?tM
   . exact(?u (R:=Ge R p) hj).congr fun c _=>Bt e c
def blendR[?cV][?bP]:Mat:=Bx (Bx R p ?w7) q ?qX
theorem Gc{R:Mat}{p q:Nat}(ne:?cP)[?bP](k:Nat):?z0 p=?qZ:=by unfold blendR;rw[Bt ne,Bi]
theorem Id[?cV][?bP](k:Nat):?z0 q=?pP:=by unfold blendR;rw[Bi]
theorem Dw[?j4](h1:?cC)(h2:r≠q)[?bP](k:Nat):?z0 r=R r k:=by unfold blendR;rw[Bt h2,Bt h1]
theorem LD[?b8](R:Mat)[?R][?iZ]:E6 n R ?fH:=fun s=>by
 unfold blendR;rw[Lr,Lr];rw[kL ?hE hp hq ne a b c d h]
theorem lD{W n p q:Nat}(R:Mat)[?R][?iZ]:?yZ ?fH:=by
 ext iU
 . ext eB
   . subst e;exact(?jG ?p8 a b).congr fun k _=>(?q1).symm
   . by_cases e2:j=q
     . subst e2;exact((?u hp).mix (?fU) c d).congr fun k _=>(Id R p j a b c d k).symm
     . exact ?eL fun k _=>(?pG).symm
 . ext eB
   . subst e;refine((?yM ?oI).mix (?u (R:=?oI) hq) d (-b)).congr ?kT;ext xG
     grind
   . by_cases e2:j=q
     . subst e2;refine((?u (R:=?rB) hp).mix (?yM ?rB) (-c) a).congr ?kT;ext xG
       grind
     . exact(?yM ?vI).congr fun k _=>?pG
def moveR(R:Mat)(i s:Nat):Mat:=fun r c=>if r<s then ?aK else if r=s then ?cQ else if ?aI then R ?dO c else ?aK
theorem dJ{n:Nat}:∀(d:Nat) (R:Mat) {i s:Nat},i<n->i=s+d->E6 n R ?dS
 | 0,R,i,s,hi,e=>by
   have:?eT=R:=by
    funext r c
    ext aL;by_cases e1:r<s
    . rw[?dX]
    . rw[?Y];by_cases e2:r=s
      . rw[?d9,e2,?sU]
      . ext n8
   rw[this];exact E6.refl n R
 | d+1,R,i,s,hi,e=>by
   obtain⟨j,rfl⟩:∃j,i=j+1:=?t7
   have h1:E6 n R (?yB j):=fun t=>by
    rw[Lr,Lr,z9 ?c,qc2]
    rw[show Bx (Bx ?fS j ?oM) ?I (fun l=>R ?I ?m)=?lH from by
     have:=Gp ?fS j;rw[show(?oM)=?fS j from rfl,this];exact Gp ?fS ?I]
   have h2:=dJ (n:=n) d (?yB j) (i:=j) (s:=s) O9m O9m
   have e3:?z (?yB j) j s=?z R ?I s:=by
    funext r c
    ext aL;by_cases e1:r<s
    . rw[?dX,?dX,?dV,?dV]
    . rw[?Y,?Y];by_cases e2:r=s
      . rw[?d9,?d9,Bt (show j≠j+1 by omega),Bi]
      . rw[?bU,?bU];by_cases e4:?a6
        . rw[?n e4,?n (show r<=j+1 by omega),Bt (show r-1≠j+1 by omega),Bt (show r-1≠j by omega)]
        . rw[?lR];by_cases e5:r=j+1
          . subst e5;rw[Bi,?G];rfl
          . rw[?e (show ¬r<=j+1 by omega),Bt e5,Bt (?xU r j)]
   rw[e3]at h2;exact h1.trans h2
theorem MT{W n:Nat}(R:Mat){i s:Nat}[?j5]:?yZ ?dS:=by
 ext iU
 . by_cases e1:j<s
   . exact ?eL ?sN
   . by_cases e2:j=s
     . exact(?u hi).congr fun c _=>by ext aL;rw[?Y,?d9]
     . by_cases e3:?aQ
       . exact(?u (R:=R) (j:=j-1) O9m).congr fun c _=>by ext aL;rw[?Y,?bU,?lC]
       . exact ?eL fun c _=>by ext aL;rw[?Y,?bU,?e e3]
 . by_cases e1:j<s
   . exact ?pX ?sN
   . by_cases e2:j=i
     . exact(?u (R:=?eT) (j:=s) O9m).congr fun c _=>by ext aL;rw[?k,?o,e2]
     . by_cases e3:j<i
       . exact(?u (R:=?eT) (j:=j+1) O9m).congr fun c _=>by ext aL;rw[?k,?k,?G];rfl
       . exact ?pX fun c _=>by ext aL;ext n1
theorem Pe{f g:?l}[?b8][?R](h:∀k,k<n->k≠p->k≠q->f k=g k)(e:f p+f q=g p+g q):?fB=Ai g n:=by
 have z:?sZ=(f p-g p)+(f q-g q):=by
  have e1:?sZ=Ai (fun k=>(if k=p then 1 else 0)*(f p-g p)+(if k=q then 1 else 0)*(f q-g q)) n:=by
   refine ?lL;by_cases e1:k=p
   . subst e1;rw[?o,?fL];omega
   . rw[?Y];by_cases e2:k=q
     . subst e2;rw[?o];omega
     . rw[?bU,h k hk e1 e2];omega
  rw[e1,Cd,Da (fun _=>f p-g p) p n,?n hp,Da (fun _=>f q-g q) q n,?n hq]
 rw[Cd,Ay]at z;omega
def pT(n:Nat)(B R:Mat)(a b:Nat):Int:=?oT
theorem fF[?b8](B R:Mat)[?R](k:Int)(a b:Nat):?zB (?j B q p (-k)) ?cH:=by
 refine Pe hp hq ne (fun j _ h1 h2=>by rw[C4 h2,C4 h1]) ?_;rw[C4 (r:=p) (p:=q) ne,Cg R p q k,Cg B q p (-k),C4 ?e3]
 grind
theorem VJ{n p:Nat}(B R:Mat)(a b:Nat):?zB (Ge B p) ?dL:=by
 refine Ag ?kT;by_cases e:k=p
 . subst e;unfold Ge;rw[Bi,Bi,Int.neg_mul_neg]
 . unfold Ge;rw[?dJ,?dJ]
theorem cX[?b8](B R:Mat)[?R][?iZ](x y:Nat):pT n (?zS a) ?fH x y=pT n B R x y:=by
 refine Pe hp hq ne (fun j _ h1 h2=>by rw[?r6,?r6]) ?_;rw[?b6,?b6,Id,Id];have e1:?sR=(a*d-b*c)*(?sR):=?m8
 have e2:?tB=(a*d-b*c)*(?tB):=?m8
 grind
theorem i4[?aY]:∀(d:Nat) {n i s:Nat},i<n->i=s+d->Ai (fun r=>if r<s then f r else if r=s then f i else if ?aI then f ?dO else f r) n=?fB
 | 0,n,i,s,hi,e=>Ag fun r _=>by
   by_cases e1:r<s
   . rw[?dX]
   . rw[?Y];by_cases e2:r=s
     . rw[?d9,e2,?sU]
     . ext n8
 | d+1,n,i,s,hi,e=>by
   rw[←i4 f d (n:=n) (i:=i) (s:=s+1) hi ?c];refine Pe (p:=s) (q:=s+1) O9m O9m O9m (fun r _ h1 h2=>?_) ?_
   . by_cases e1:r<s
     . rw[?dX,?G]
     . rw[?Y,?e h1,?e (show ¬r<s+1 by omega),?e h2]
   . rw[?k,?o,?k,?k,?G,?G,?k,?o];show f i+f (s+1-1)=f s+f i;rw[show s+1-1=s by omega];omega
theorem QI{n:Nat}(B R:Mat){i s:Nat}[?j5](a b:Nat):?zB (?z B i s) ?dS:=by
 show Ai (fun k=>?z B i s k a*?z R i s k b) n=?oT;rw[←i4 (fun k=>B k a*R k b) (i-s) (n:=n) (i:=i) (s:=s) hi ?c];refine Ag fun r _=>?_;ext aL;split
 . rfl
 . split
   . rfl
   . split<;>rfl
def pD[?bR][?E](i j:Nat):Int:=Ai (fun c=>?jP*B j c) n
def Fb[?bR][?E]:Prop:=∀i j,i<n->j<n->?v7=?u1
def dot[?bR][?gA]:Int:=Ai (fun c=>u (w+c)*v c) n
theorem Dv[?bR](u v x:?l)(a b:Int):?zI (?i0) x=a*?zI u x+b*?zI v x:=by
 unfold dot;rw[←Ay,←Ay,←Cd];exact Ag fun c _=>by rw[Int.add_mul,qe1,qe1]
theorem F5[?bR](u x y:?l)(a b:Int):?zI u (fun c=>a*x c+b*y c)=a*?zI u x+b*?zI u y:=by
 unfold dot;rw[←Ay,←Ay,←Cd];exact Ag fun c _=>?w
theorem Xg[?bR][?E](i j:Nat):?v7=?sI:=rfl
theorem Mf[?cV](k:Int):?j R p q k p=?u7:=?U fun c=>Cg ..
theorem addR_row_ne[?j4]{k:Int}(h:?cC):?j R p q k r=R r:=?U fun c=>C4 h c
theorem blend_row_p{R:Mat}{p q:Nat}(ne:?cP)[?bP]:?z7 ?t p=?w7:=?U fun k=>?q1
theorem blend_row_q[?cV][?bP]:?z7 ?t q=?qX:=?U fun k=>?z7 Id k
theorem blend_row_ne[?j4](h1:?cC)(h2:r≠q)[?bP]:?z7 ?t r=R r:=?U fun k=>Dw h1 h2 a b c d k
theorem Fb.add{n w p q:Nat}[?g2][?R](k:Int):Fb n w ?cH (?j B q p (-k)):=fun i j hi hj=>by
 ext n0
 rw[Xg];by_cases e1:i=p
 . subst e1;rw[Mf];by_cases e2:j=q
   . subst e2;rw[Mf,F5,Dv,Dv,?T,?tD,?k5,?o0];rw[?fL,?o,?o,?e ?e3];omega
   . rw[?cA e2,Dv,?T,?p6,show ?xV q j from ?gD];omega
 . rw[?cA e1];by_cases e2:j=q
   . subst e2;rw[Mf,F5,?T,?rS,?wJ];omega
   . rw[?cA e2];exact ?T
theorem Fb.neg{n w p:Nat}[?g2][?b9]:Fb n w ?dL (Ge B p):=fun i j hi hj=>by
 ext n0
 have s1:∀(R:Mat),Ge R p p=fun c=>-1*?aO+0*?aO:=fun R=>?U (?zY ?tG)
 have s2:∀(R:Mat) {r:Nat},?cC->Ge R p r=R r:=fun R r hr=>?U fun c=>Bt hr c;rw[Xg];by_cases e1:i=p
 . subst e1;by_cases e2:j=i
   . subst e2;rw[s1,s1,F5,Dv,?lD];rw[?o];omega
   . rw[s1,s2 B e2,Dv,?T,?gD];omega
 . by_cases e2:j=p
   . subst e2;rw[s1,s2 R e1,F5,?T,?Y];omega
   . rw[s2 R e1,s2 B e2];exact ?T
theorem Fb.blend{n w p q:Nat}[?g2][?R]{a b c d:Int}(h1:a*d-b*c=1):Fb n w ?fH (?zS a):=fun i j hi hj=>by
 ext n0
 have ne':q≠p:=?mD;rw[Xg];by_cases e1:i=p
 . subst e1;rw[?eK];by_cases e2:j=i
   . subst e2;rw[?eK,F5,Dv,Dv,?lD,D q j hq hi,D j q hi hq,D q q hq hq]
     ext iT
     grind
   . by_cases e3:j=q
     . subst e3;rw[blend_row_q,F5,Dv,Dv,?k5,D j i hq hi,D i j hi hq,D j j hq hq]
       ext iT
       grind
     . rw[?m0,Dv,?T,?p6,show ?hB from ?gD,show ?xV q j from ?y0 e3];omega
 . by_cases e4:i=q
   . subst e4;rw[blend_row_q];by_cases e2:j=p
     . subst e2;rw[?eK,F5,Dv,Dv,?tD,?T,?o0,?k5]
       ext iT
       grind
     . by_cases e3:j=i
       . subst e3;rw[blend_row_q,F5,Dv,Dv,D p p hp hp,D j p hi hp,D p j hp hi,?lD]
         ext iT
         grind
       . rw[?m0,Dv,D p j hp hj,?T,show ?xV p j from ?gD,show ?hB from ?y0 e3];omega
   . rw[?kM e1 e4];by_cases e2:j=p
     . subst e2;rw[?eK,F5,?T,D i q hi hq,show ?hB from ?Y,show ?xV i q from ?lR];omega
     . by_cases e3:j=q
       . subst e3;rw[blend_row_q,F5,?rS,?T,?wJ,show ?hB from ?lR];omega
       . rw[?m0];exact ?T
def mvI(i s r:Nat):Nat:=if r<s then r else if r=s then i else if ?aI then r-1 else r
theorem move_row(R:Mat)(i s r:Nat):?z R i s r=R (?s6):=by
 funext c
 unfold moveR mvI;split
 . rfl
 . split
   . rfl
   . split<;>rfl
theorem Fb.move{n w i s:Nat}[?g2][?j5]:Fb n w ?dS (?z B i s):=fun x y hx hy=>by
 rw[Xg,move_row,move_row];have l:∀r,r<n->?s6<n:=fun r hr=>?qS
 have:=h _ _ (l x hx) (l y hy);rw[Xg]at this;rw[this]
 have inj:(mvI i s x=mvI i s y)↔x=y:=by
  constructor
  . intro e;unfold mvI at e;by_cases a1:x<s<;>by_cases a2:x=s<;>by_cases a3:x<=i<;>by_cases b1:y<s<;>by_cases b2:y=s<;>by_cases b3:y<=i<;>simp only[a1,a2,a3,b1,b2,b3,if_true,if_false]at e<;>first | omega | (subst_vars;simp_all;try omega)
  . intro e;rw[e]
 by_cases e:x=y
 . rw[?fV,?n (inj.mpr e)]
 . rw[?eP,?e fun z=>e (inj.mp z)]
structure Good(n W w lo:Nat)(R B R' B':Mat):Prop where
 eqv:∀m,lo<=m->LK W m R R'
 det:∀m,lo<=m->E6 m R R'
 pt:∀a b,?zB B' R'
 dual:?rY->Fb n w R' B'
 rest:∀r c,lo<=r->?tY
 restB:∀r c,lo<=r->B' r c=B r c
theorem Good.refl(n W w lo:Nat)[?E]:?xZ R B:=⟨fun m _=>LK.refl W m R,fun m _=>E6.refl m R,?hD,id,?d4,?d4⟩
theorem Good.trans[?j9]{R B R' B' S C:Mat}(h1:?jV)(h2:?O n W w lo R' B' S C):?xZ S C :=
 ⟨?zE h1.eqv h2.eqv,?zE h1.det h2.det,fun a b=>(h2.pt a b).trans (h1.pt a b),fun d=>h2.dual (h1.dual d),?yY h2.rest h1.rest,?yY h2.restB h1.restB⟩
theorem Good.mono{n W w lo lo':Nat}[?j7](h:?jV)(hl:lo<=lo'):?O n W w lo' R B R' B':=⟨?z5 h.eqv m,?z5 h.det m,h.pt,h.dual,fun r c hr=>h.rest r c O9m,fun r c hr=>h.restB r c O9m⟩
theorem Good.add{n W w lo p q:Nat}[?E][?xP](k:Int):?xZ ?cH (?j B q p (-k)) :=
 ⟨?y1 SA k,?y1 sD k,fun a b=>fF B R O9m O9m ne k a b,fun d=>d.add O9m O9m ne k,?vL,?vL⟩
theorem Good.neg{n W w lo p:Nat}[?E](hp:p<lo)(hn:?gW):?xZ ?dL (Ge B p) :=
 ⟨?z5 qQ R,?z5 qR R,fun a b=>VJ B R a b,fun d=>d.neg O9m,?o4,?o4⟩
theorem Good.blend{n W w lo p q:Nat}[?E][?xP][?iZ]:?xZ ?fH (?zS a) :=
 ⟨?y1 lD h,?y1 LD h,fun x y=>cX B R O9m O9m ne h x y,fun e=>e.blend O9m O9m ne h,?w5,?w5⟩
theorem Good.move{n W w lo i s:Nat}[?E](hi:i<lo)(hs:s<=i)(hn:?gW):?xZ ?dS (?z B i s) :=
 ⟨fun m hm=>MT R O9m hs,fun m hm=>dJ (i-s) R O9m O9m,fun a b=>QI B R O9m hs a b,fun d=>d.move O9m hs,fun r c hr=>by
  ext e8;ext n1,fun r c hr=>by
  ext e8;ext n1⟩
theorem Fb.row{n w i:Nat}[?g2](hi:i<n):∃c,c<n/\?jP≠0:=by
 refine qg2 ?iM;have e:=h i i hi hi;rw[?o]at e;unfold pD at e;rw[?D ?dE]at e
 . cases e
 . have:?jP=0:=qg2 fun y=>z ⟨c,hc,y⟩;ext b7
theorem IF{x h:Int}{K:Nat}(hh:0<h)(hx:x.natAbs<=K*h.natAbs):?nY<=K:=by
 have e:(h.natAbs:Int)=h:=O9m
 have hx':(x.natAbs:Int)<=?i8*h:=by rw[←e];exact_mod_cast hx
 have u1:x / h<=?i8:=by
  have:x<=?i8*h:=O9m
  exact Int.ediv_le_of_le_mul hh ?K
 have u2:-?i8<=x / h:=by
  refine(Int.le_ediv_iff_mul_le hh).mpr ?_;rw[qn3];omega
 omega
structure Part(R:Mat)[?v](f m:Nat):Prop where
 inc:∀j k,?dD->j<k->k<m->?jD
 zero:∀j c,?dD->j<m->?oJ
 pos:∀j,?dD->j<m->0<?C
 red:∀k j,f<=k->k<j->j<m->?uB
structure LJ(n W w lo:Nat)[?E][?v](p f m j μ:Nat)(R' B':Mat):Prop where
 good:?jV
 same:?vV
 left:∀c,(∀l,f<=l->l<m->c<t l)->?eQ=?aO
 red:∀l,f<=l->l<j->?tF
 rel:∀l,j<=l->l<m->?zZ ?cE ?gT
 ins:∀W',∃v:?l,In W' lo R v/\∀c,?eQ=?aO+v c
theorem LJ.start[?j9][?aZ][?f]{p f m μ:Nat}[?xD]:LJ n W w lo R B t p f m f μ R B :=
 ⟨?hM,?d4,?hD,fun l h1 h2=>O9m,fun l h1 h2=>by rw[qj0,qw3,qf3];exact h l h1 h2,fun W'=>⟨?hA,?hR W' lo R,fun c=>by show ?aO=?aO+0;omega⟩⟩
theorem aF[?cV]:?j R p q 0=R:=by
 funext r c
 by_cases e:r=p
 . subst e;rw[Cg];omega
 . exact ?mQ
theorem LJ.step[?j9][?j7][?f]{p f m j μ:Nat}(h:LJ n W w lo R B t p f m j μ R' B')(P:?gS)(hf:?dD)(hj:j<m)[?xO] :
 ?sL<=2 ^ (j-f)*μ/\LJ n W w lo R B t p f m ?I μ (?j R' p j (-(?c1))) (?j B' j p (?c1)):=by
 have hh:=P.pos j hf hj;have ne:p≠j:=O9m
 have q1:=IF hh (h.rel j ?h hj);refine⟨q1,?_⟩;generalize hq:?c1=q at q1;have rj:∀c,?tS:=fun c=>h.same j c ?e3;refine⟨?i6 ?_,?o7,?dE,?d5,?d5,fun W'=>?_⟩
 . have:=?tU (n:=n) (W:=W) (w:=w) (lo:=lo) R' B' hp (show j<lo by omega) hn ne ?bH;rw[qn2]at this;ext aA
 . rw[C4 hr];exact h.same r c hr
 . rw[Cg,h.left c hc,rj,?kJ j c hf hj (hc j hf hj)];simp
 . rw[Cg,rj];by_cases e:l=j
   . subst e;have d1:=Int.emod_nonneg (?cE) (?xU ?c8 0);have d2:=qq6 (?cE) hh;have d3:=Int.mul_ediv_add_emod (?cE) (?c8);rw[hq]at d3;have d4:?c8*q=q*?c8:=?kF;rw[qn3];omega
   . have z:?dF=0:=?kJ j _ hf hj (P.inc l j h1 O9m hj);rw[z,qe2,qn4,qd0];exact ?eW l h1 O9m
 . rw[Cg,rj];have a:=?z1 h.rel;obtain⟨b1,b2⟩:=P.red j l hf O9m h2;have b:?zZ ?dF ?bC:=O9m
   have c:=qf2 (1*?cE) (-q*?dF);rw[qd0]at c;rw[qd0]
   have d:(-q*?dF).natAbs<=?gT:=by
    rw[qb0,qc2];exact qf0 q1 b
   rw[show j+1-f=(j-f)+1 by omega,qg4];have e:2 ^ (j-f)*2*μ*?bC=?gT+?gT:=?w
   omega
 . obtain⟨v,hv,hc⟩:=h.ins W';refine⟨fun c=>1*v c+?bH*?c5,hv.mix ?sS 1 ?bH,?zY ?_⟩;rw[Cg,hc c,rj]
   grind
def Bits(n W b:Nat)(R:Mat):Prop:=∀r c,r<n->c<W->?d3<?s
theorem eE{x y a k:Int}{b c:Nat}(hx:x.natAbs<?s)(hy:y.natAbs<?s)(ha:a.natAbs<?q)(hk:?o9):?nL<2 ^ (b+c+1):=by
 have e:=?wS;rw[qb0,qb0]at e;have u:a.natAbs*x.natAbs<?gK:=?yT ha hx
 have v:k.natAbs*y.natAbs<?gK:=?yT hk hy
 rw[?jR,qg4];omega
theorem Bits.mono{n W b b':Nat}[?g3](hb:b<=b'):?zO b' R:=?r3
theorem Bits.add{n W b c p q:Nat}[?g3][?b9][?n9]:?zO (b+c+1) ?cH:=fun r x hr hx=>by
 by_cases e:r=p
 . subst e;rw[Cg]
   have h1:(1:Int).natAbs<2 ^ ?P:=by
    have:1<=?q:=qk0;rw[qg4];show 1<_;omega
   have e1:=qf2 (1*?f9) (k*R q x);rw[qd0,qb0]at e1;rw[qd0];have u:k.natAbs*(R q x).natAbs<?gK:=?yT hk (h q x hq hx)
   have v:?r8<?gK:=?rC;rw[?jR,qg4];omega
 . rw[C4 e];exact ?rC
theorem Bits.blend{n W b e p q:Nat}[?g3][?R][?x1]:?zO (b+e+1) (?t R p q x y z u):=fun r c hr hc=>by
 by_cases e1:r=p
 . subst e1;rw[?b6];exact eE ?dN (h q c hq hc) hx hy
 . by_cases e2:r=q
   . subst e2;rw[Id];exact eE (h p c hp hc) ?dN hz hu
   . rw[?rD];exact qb3 ?dN (?gZ)
theorem Bits.neg{n W b p:Nat}[?g3]:?zO b ?dL:=fun r c hr hc=>by
 unfold Ge;by_cases e:r=p
 . subst e;rw[Bi,qc2];exact ?h8
 . rw[?dJ];exact ?h8
theorem Bits.move{n W b i s:Nat}[?g3][?j5]:?zO b ?dS:=fun r c hr hc=>by
 rw[move_row];exact h _ c (?qS) hc
structure Dj[?e7](R0 B0:Mat)[?v](π b:Nat)(spot:Nat)[?E]:Prop where
 good:?kY
 zero:?s2
 pos:?pF
 old:∀j c,spot<=j->j<i->?c5=R0 j c
 pass:∀j c,?fM->c<=t j->?dT
 pv:∀l,spot<=l->l<i->(R i ?m).natAbs<=?A
 gc:∀r c,?aI->G c->?d3<=2 ^ (?gV)
structure Je[?e7](R0 B0:Mat)[?v](π b:Nat):Prop where
 hi:i<n
 part:?bN R0 t 0 i
 lt:?vA
 hd:?y6 ?oK ?A
 rw:∀r c,r<i->G c->?zZ ?jM ?s
 ri:∀c,G c->(R0 i c).natAbs<=?s
 rp:∀l,l<i->(R0 i ?m).natAbs<=?A
theorem Part.sub{R:Mat}[?f]{f f' m:Nat}(h:?gS)(hf:f<=f'):?bN R t f' m:=⟨fun j k h1=>?iE j k O9m,fun j c h1=>?aR j c O9m,fun j h1=>?hS,fun k j h1=>?eW k j O9m⟩
theorem Part.congr{R R':Mat}[?f]{f m:Nat}(h:?gS)(e:∀j c,?dD->j<m->?tS):?bN R' t f m :=
 ⟨?iE,fun j c h1 h2 h3=>by rw[e j c h1 h2];exact ?aR j c h1 h2 h3,fun j h1 h2=>by rw[e j _ h1 h2];exact ?a1 j h1 h2,fun k j h1 h2 h3=>by rw[e k _ h1 ?c,e j _ ?c h3];exact ?eW k j h1 h2 h3⟩
theorem Dj.start[?H]{R0 B0:Mat}[?f]{π b:Nat}(h:?qN):Dj n W w i G R0 B0 t π b 0 R0 B0:=by
 refine⟨?hM,fun j c hj hc=>h.part.zero j c ?J hj hc,fun j hj=>h.part.pos j ?J hj,fun _ _ _ _=>rfl,?l4,fun l _ hl=>h.rp l hl,?bZ⟩;have e:?s<=2 ^ (?bI+0*?bM):=?gZ;by_cases z:r=i
 . subst z;exact qa6 (h.ri c hc) e
 . exact qa6 (h.rw r c O9m hc) e
theorem Dj.skip[?H][?cW][?f][?g9](h:?vO)(hz:∀c,?fI->?dT):?y4 R B:=by
 refine⟨h.good,?aR,?a1,fun j c hj=>?aJ j c O9m,?dK,fun l hl=>h.pv l O9m,fun r c hr hc=>qa6 (?mR) (qe5 ?cN ?_)⟩
 . ext g7
   . subst e;exact hz c hc
   . exact h.pass j c O9m hc
 . rw[qf4];omega
structure Zc[?e7][?E][?v](b p spot μ:Nat)(R' B':Mat):Prop where
 good:?O n W w ?i R B R' B'
 same:?vV
 left:∀c,?fI->?eQ=?aO
 red:∀l,?bD->l<i->?tF
 gc:∀c,G c->?v9<=?rM+2 ^ ?aB*μ*?s
structure g6[?e7][?E][?v](b p spot μ j:Nat)(R' B':Mat):Prop where
 s:LJ n W w ?i R B t p ?r i j μ R' B'
 gc:∀c,G c->?v9+μ*?s<=?rM+?k6
theorem g6.start[?H][?aZ][?f][?nJ][?n2]:g6 n W w i G R B t b p ?d μ ?r R B :=
 ⟨?o8 ?pB,fun c _=>by rw[qj0,qw3,qf3];exact ?bV⟩
theorem g6.step[?H][?j7][?f]{b p spot μ j:Nat}(h:?yV j)[?nG][?n5](hf:spot<j)(hj:j<i)[?nE] :
 ?sL<=?l2/\g6 n W w i G R B t b p ?d μ ?I (?j R' p j (-(?c1))) (?j B' j p (?c1)):=by
 obtain⟨q,s⟩:=h.s.step P O9m hj O9m O9m O9m O9m;refine⟨qa6 q (qb4 _ (?gZ)),s,?dE⟩;have ne:p≠j:=O9m
 rw[Cg,?rF j c ?e3];have a:=?tW;have e:=qf2 (1*?eQ) (-(?c1)*?c5);rw[qd0,qb0,qc2]at e;rw[qd0];have m:=qf0 q (hG j c hf hj hc);rw[show j+1-?r=(j-?r)+1 by omega,qg4];have z:2 ^ (j-?r)*2*μ*?s=?k6+?k6:=?w
 omega
theorem g6.done[?H][?j7][?f][?nJ](h:?yV i)(P:?jC):Zc n W w i G R B t b p ?d μ R' B' :=
 ⟨h.s.good,?rF,fun c hc=>h.s.left c fun l h1 h2=>by have:=?z1 P;omega,fun l h1 h2=>?z1 h.s.red,fun c hc=>by have:=?tW;omega⟩
theorem C6{a b:Nat}(h:a<=b):2 ^ a<=?s:=qe5 ?cN h
theorem QT{x y a b:Nat}(hx:x<=2 ^ a)(hy:y<=?s):x*y<=2 ^ (a+b):=by rw[qd7];exact qf0 hx hy
theorem Dj.addPre[?H][?cW][?f][?g9][?bO][?bQ]{q:Int}(hq:?lW) :
 ∀l,?bD->l<i->(?j R i ?d ?bH i ?m).natAbs<=?eU*(?j R i ?d ?bH l ?m).natAbs:=fun l h1 h2=>by
 rw[Cg,C4 (?xU l i)];ext wU;have a:=?jI;have e:=qf2 (1*R i ?m) (-q*?w3);rw[qd0,qb0,qc2]at e;rw[qd0];have m:q.natAbs*?uX<=?h9:=qf0 hq O9m;have m2:?A*1<=?h9:=?mO;rw[qg4];have z:?A*2*?bC=?h9+?h9:=?w
 omega
theorem Dj.metAdd[?H]{R0 B0 R B R2 B2:Mat}[?f][?g9][?bO][?bQ]{q:Int}(hq:?lW)[?iY][?xQ]
 (S:Zc n W w i G (?pD) (?t4) t b i ?d (?eU) R2 B2):?y4 R2 B2:=by
 have ne:i≠spot:=O9m
 have keep:∀r c,r≠i->R2 r c=?aK:=fun r c hr=>by rw[?d1 r c hr,C4 hr]
 refine⟨?_,fun j c hj hc=>by rw[?pE];exact ?qR,fun j hj=>by rw[?cL j _ ?c];exact ?sM,fun j c hj hji=>by rw[?pE];exact ?oB,?dK,?d5,?bZ⟩
 . have g:=?tU (n:=n) (W:=W) (w:=w) (lo:=i+1) R B (?yF i) (?yF spot) ?b3 ne ?bH;rw[qn2]at g;exact ?pN S.good
 . have ts:?fI:=by
    ext g7
    . rw[←e];exact hc
    . ext xM
   rw[S.left c ts,Cg];by_cases e:c=?b2
   . rw[e,he,qd0,qn3];omega
   . rw[?qT,?aR ?d c hs ?c];simp
 . obtain⟨a,c⟩:=?z1 S.red;rw[C4 (?xU l i)]at c;ext x9
 . ext wY
   rw[zb];generalize hz2:?gV=z;have hzb:?bI<=z:=?vJ
   by_cases e:r=i
   . subst e;have a:=S.gc c hc;have g:=?e6 r c ?h hc;rw[hz2]at g;have rs:?s5:=?q7
     have e1:=qf2 (1*?aK) (-q*?dR);rw[qd0,qb0,qc2]at e1;rw[Cg,qd0]at a;have m1:=QT hq rs
     have m2:2 ^ (r-?r)*?eU*?s<=?kN:=by
      rw[←qd7,←qd7];exact ?aG
     have m3:?uQ<=?kN:=?aG;have m4:4*?kN=2 ^ z:=?yI z z
     have m5:2*2 ^ z<=2 ^ (z+π+1):=by rw[show z+π+1=1+(z+π) by omega,qd7];exact qf0 ?cN ?aH
     omega
   . rw[?cL r c e];have g:=?mR;rw[hz2]at g;exact qa6 g ?aH
structure IX(π:Nat)(h0 o0 x y z u:Int):Prop where
 one:x*u-y*z=1
 hd:0<x*h0+y*o0
 ot:z*h0+u*o0=0
 lx:?mA
 ly:?l3
 lz:z.natAbs<=?A
 lu:u.natAbs<=?A
theorem HV{x y a c:Int}{π h:Nat}(hx:?mA)(hy:?l3)(ha:a.natAbs<=h)(hc:c.natAbs<=?A)(h1:1<=h):(x*a+y*c).natAbs<=?W*h:=by
 have e:=qf2 (x*a) (y*c);rw[qb0,qb0]at e;have m1:x.natAbs*a.natAbs<=?h5:=qf0 (qa6 hx ?aH) ha;have m2:y.natAbs*c.natAbs<=?h5:=qa6 (QT hy hc) (by rw[show π+π=2*π by omega];exact qh7 _ h1);rw[qg4];have z:?v6*2*h=?h5+?h5:=?w
 omega
theorem Dj.blendPre[?H][?cW][?f][?g9][?bO][?bQ][?n3] :
 (?xY ?d)/\(?xY i):=by
 have ne:?mK:=O9m
 have base:∀l,?bD->l<i->?uX<=?bC/\1<=?bC:=fun l h1 h2=>by
  ext wU;omega
 refine⟨?d5,?d5⟩
 . rw[?b6,?mB];exact HV e.lx e.ly (?h7).1 (?jI) (?h7).2
 . rw[Id,?mB];exact HV e.lz e.lu (?h7).1 (?jI) (?h7).2
theorem Dj.metBlend[?H]{R0 B0 R B R2 B2 R3 B3:Mat}[?f][?g9][?bO][?bQ][?n3][?iY]
 (S1:Zc n W w i G (?mN) (?t B ?d i u (-z) (-y) x) t b ?d ?d (?W) R2 B2) (S2:Zc n W w i G R2 B2 t b i ?d (?W) R3 B3):?y4 R3 B3:=by
 have ne:?mK:=O9m
 have keep:∀r c,r≠i->?v4->R3 r c=?aK:=fun r c h1 h2=>by rw[S2.same r c h1,?fD r c h2,Dw h2 h1]
 have rs:∀c,R3 ?d c=R2 ?d c:=fun c=>S2.same ?d c ne;have r2i:∀c,R2 i c=z*?dR+u*?cQ:=fun c=>by rw[?fD i c (fun w=>ne w.symm),Id]
 have gz:∀c,c<?b2->?dR=0:=fun c hc=>?aR ?d c hs hc;refine⟨?_,?dK,?V,fun j c hj hji=>by rw[?cL j c ?c ?c];exact ?oB,?dK,?d5,?bZ⟩
 . have g:=Good.blend (n:=n) (W:=W) (w:=w) (lo:=i+1) R B (?yF spot) (?yF i) ?b3 ne e.one;exact(?pN S1.good).trans S2.good
 . by_cases e1:?d0
   . subst e1;rw[rs,S1.left c ?c,?b6,gz c hc,hz c hc];simp
   . rw[?cL j c ?c e1];exact ?qR
 . by_cases e1:?d0
   . subst e1;rw[rs,S1.left _ ?h,?b6];exact e.hd
   . rw[?cL j _ ?c e1];exact ?sM
 . have ts:?fI:=by
    by_cases e1:?d0
    . rw[←e1];exact hc
    . ext xM
   rw[S2.left c ts,r2i];by_cases e1:c=?b2
   . rw[e1];exact e.ot
   . rw[?qT,gz c ?c];simp
 . obtain⟨a,c⟩:=?z1 S2.red;rw[?tE,?mB]at c;ext x9
 . ext wY
   rw[zb];have g0:=?e6 ?d c O9m hc;have gi:=?e6 i c ?h hc;have gr:=?mR;generalize hz2:?gV=zz at g0 gi gr;have hzb:?bI<=zz:=?vJ
   have rsb:?s5:=?q7
   have bnd:∀{x y:Int},?mA->?l3->(x*?dR+y*?cQ).natAbs+2 ^ ?aB*?W*?s<=2 ^ (zz+π+1):=fun {x y} hx hy=>by
    have e1:=qf2 (x*?dR) (y*?cQ);rw[qb0,qb0]at e1;have m1:=QT hx rsb;have m2:=QT hy gi
    have m3:2 ^ ?aB*?W*?s<=?k8:=by
     rw[←qd7,←qd7];exact ?aG
    have m4:?uQ<=?k8:=?aG;have m5:4*?k8=2 ^ zz:=?yI zz zz
    have m6:2 ^ zz<=2 ^ (π+zz):=?aG;have m7:2 ^ (zz+π+1)=2*2 ^ (π+zz):=by rw[show zz+π+1=1+(π+zz) by omega,qd7,Nat.pow_one]
    omega
   by_cases e1:r=i
   . subst e1;have a:=S2.gc c hc;rw[r2i]at a;exact qa6 a (bnd e.lz e.lu)
   . by_cases e2:?kC
     . subst e2;have a:=S1.gc c hc;rw[?b6]at a;rw[rs];exact qa6 a (bnd e.lx e.ly)
     . rw[?cL r c e1 e2];exact qa6 gr ?aH
def insT[?v](s st:Nat):?x:=fun r=>if r<s then t r else if r=s then st else t ?dO
structure SK[?e7](R0 B0:Mat)(t1:?x)(Y:Nat)[?E]:Prop where
 good:?kY
 s0:Hx ?i R t1
 lt:∀j,?aQ->t1 j<W
 pg:∀j,?aQ->G (t1 j)
 gc:∀r c,?aI->G c->?d3<=?iR
theorem Dj.ins[?H][?cW][?f]{π b spot st:Nat}[?bO](hs:?mM)(h0:∀c,c<st->?dT)(h1:R i st≠0)(hW:st<W)(hG:G st)(yG:?tV)(hex:spot<i->st<?b2) :
 SK n W w i G R0 B0 ?gJ (?bI+i*?bM) (if ?iI<0 then Ge ?gG ?d else ?nN) (if ?iI<0 then Ge (?lN) ?d else ?lN):=by
 have row:∀c,?oL=?cQ:=fun c=>by ext e8;ext iV
 have lo:∀r c,r<spot->?i1=?aK:=fun r c hr=>by ext e8;rw[?kS]
 have up:∀r c,?dY->?aI->?i1=R ?dO c:=fun r c hr hi=>by ext e8;rw[?k,?k,?n hi]
 have gm:?O n W w ?i R0 B0 ?gG (?lN):=?i6 (Good.move R B O9m hs ?b3)
 have tl:∀j,?fM->t j<st:=fun j hj=>by
  refine qj5 fun z=>h1 (h.pass j st hj z)
 have inc:∀j k,j<k->k<i+1->?f4<?cK t ?d st k:=fun j k hjk hk=>by
  unfold insT;by_cases a1:?fM
  . rw[?iP];by_cases b1:k<spot
    . rw[?n b1];exact ?d7 j k ?J hjk O9m
    . rw[?e b1];by_cases b2:k=spot
      . rw[?n b2];exact tl j a1
      . rw[?e b2];exact ?yR j
  . rw[?hL,?e (show ¬k<spot by omega),?e (show ¬k=spot by omega)];by_cases a2:?d0
    . rw[?m9];have e:=hex O9m;by_cases e2:k-1=spot
      . rw[e2];exact e
      . exact qt4 e (?yR ?d)
    . rw[?mE];exact ?yR ?dW
 have zero:∀j c,j<i+1->c<?f4->?zL j c=0:=fun j c hj hc=>by
  unfold insT at hc;by_cases a1:?fM
  . rw[?iP]at hc;rw[lo j c a1];exact ?aR j c O9m hc
  . rw[?hL]at hc;by_cases a2:?d0
    . rw[?m9]at hc;rw[a2,row];exact h0 c hc
    . rw[?mE]at hc;rw[up j c ?c ?c];exact ?aR ?dW c O9m hc
 have ZU:∀j,j<i+1->j≠spot->0<?zL j (?f4):=fun j hj hne=>by
  unfold insT;by_cases a1:?fM
  . rw[?iP,lo j _ a1];exact ?hS
  . rw[?hL,?e hne,up j _ ?c ?c];exact ?a1 ?dW O9m
 have ts:?cK t ?d st ?d=st:=?uU
 have bd:∀r c,?aI->G c->(?i1).natAbs<=2 ^ (?bI+i*?bM):=fun r c hr hc=>by
  rw[move_row]
  have lm:mvI i ?d r<=i:=by
   unfold mvI;by_cases a1:r<spot
   . rw[?iP];omega
   . rw[?hL];by_cases a2:?kC
     . rw[?m9];omega
     . rw[?mE,?kS];omega
  refine qa6 (?e6 _ c lm hc) (C6 ?_);have:=qb4 ?bM hs;omega
 have lt:∀j,?aQ->?f4<W:=fun j hj=>by
  unfold insT;split
  . exact H.lt j O9m
  . split
    . exact hW
    . exact H.lt ?dW O9m
 have pg:∀j,?aQ->G (?f4):=fun j hj=>by
  unfold insT;split
  . exact yG j O9m
  . split
    . exact hG
    . exact yG ?dW O9m
 by_cases neg:?iI<0
 . rw[?n neg,?n neg];have nr:∀c,Ge ?gG ?d ?d c=- ?oL:=fun c=>Bi ..;have nn:∀r c,?v4->Ge ?gG ?d r c=?i1:=fun r c hr=>Bt hr c;refine⟨gm.trans (Good.neg _ _ O9m ?b3),⟨inc,?dK,?V⟩,lt,pg,?bZ⟩
   . ext g7
     . have z:=?oG;rw[e]at z ⊢;rw[nr,z];rfl
     . rw[nn j c e];exact ?oG
   . ext g7
     . rw[e,nr,ts];omega
     . rw[nn j _ e];exact ?tI
   . by_cases e:?kC
     . have z:=?sA;rw[e]at z ⊢;rw[nr,qc2];exact z
     . rw[nn r c e];exact ?sA
 . rw[?e neg,?e neg];refine⟨gm,⟨inc,zero,?V⟩,lt,pg,bd⟩;ext g7
   . rw[e,ts];have:?iI≠0:=by rw[row];exact h1
     omega
   . exact ?tI
structure N2(n W w i:Nat)(R0 B0:Mat)[?v](k:Nat)[?E]:Prop where
 good:?kY
 s0:?t5
 old:∀r c,r<k->?aK=?jM
 red:∀r j,k<=r->r<j->?aQ->0<=R r ?p/\R r ?p<?C
 hd:∀j,?aQ->?C=?oK
theorem N2.start{n W w i:Nat}[?aZ][?f](h:?t5):N2 n W w i R B t ?i R B:=⟨?hM,h,?d4,fun r j h1 h2 h3=>O9m,?hD⟩
theorem N2.part{n W w i:Nat}[?cW][?f]{k:Nat}(h:N2 n W w i R0 B0 t k R B):?bN R t k ?i:=⟨fun j l _ h1 h2=>?lQ j l h1 h2,fun j c _ h1 h2=>?pQ j c h1 h2,fun j _ h1=>?wG j h1,fun r j h1 h2 h3=>?eW r j h1 h2 O9m⟩
theorem N2.next{n W w i:Nat}{R0 B0 R B R' B':Mat}[?f]{k μ:Nat}(h:N2 n W w i R0 B0 t ?aC R B)(hk:k<=i)(S:LJ n W w ?i R B t k ?aC ?i ?i μ R' B'):N2 n W w i R0 B0 t k R' B':=by
 have tl:∀c,c<=t k->R' k c=R k c:=fun c hc=>S.left c fun l h1 h2=>by have:=?lQ k l O9m h2;omega
 refine⟨?i6 S.good,⟨?lQ,?dK,?V⟩,?o7,fun r j h1 h2 h3=>?_,?V⟩
 . ext eA
   . subst e;rw[tl c ?c];exact ?wC
   . rw[?d1 j c e];exact ?wC
 . ext eA
   . subst e;rw[?nX];exact ?w0
   . rw[?s8];exact ?w0
 . rw[?d1 r c ?c];exact ?aJ r c O9m
 . rw[?d1 j _ (?xU j k)];by_cases e:r=k
   . subst e;exact S.red j O9m O9m
   . rw[?d1 r _ e];exact ?eW r j O9m h2 h3
 . ext eA
   . subst e;rw[?nX];exact ?rZ
   . rw[?s8];exact ?rZ
structure Dq[?e7](M B0:Mat)[?v][?E]:Prop where
 good:?zP i M
 st:C8 W i R t
 pg:?tV
theorem Dq.start(n W w:Nat)(G:?a3)(M B0:Mat)[?v]:Dq n W w 0 G M B0 t M B0:=⟨?hM,⟨?eX,fun j k _ hk=>O9m,?l4,?eX,fun k j _ hj=>O9m⟩,?eX⟩
theorem Dq.next[?H]{M B0 R B R1 B1 R2 B2:Mat}{t t1:?x}{Y:Nat}[?cS](I:SK n W w i G R B t1 Y R1 B1)(D:N2 n W w i R1 B1 t1 0 R2 B2):Dq n W w ?i G M B0 t1 R2 B2 :=
 ⟨((h.good.mono O9m).trans I.good).trans D.good,⟨?yP I.lt,D.s0.inc,D.s0.zero,?uY,fun k j h1 h2=>D.red k j ?J h1 O9m⟩,?yP I.pg⟩
theorem Dq.rows{n W w:Nat}[?a9][?f](h:?qH)(hw:w<=W):Ec n w M R:=by
 have e:=h.good.eqv n ?h;have cut:∀{S:Mat}{v:?l},In W n S v->In w n S v:=fun⟨x,hx⟩=>⟨x,fun c hc=>hx c O9m⟩
 refine⟨fun i hi=>cut (e.1 i hi),fun i hi=>cut (e.2 i hi),?_⟩
 obtain⟨r,hr,h1,h2⟩:?tH:=by
  have:?oA:=by
   intro m
   induction m with
   | zero=>ext xC
   | succ m ih =>
     ext xF
     . have hrm:r=m:=by
        ext xJ;have:=?fO r m y O9m;omega
       exact⟨m+1,?bV,fun j hj=>by
        by_cases q:j=m
        . rw[q];exact z
        . exact b j O9m,?mI⟩
     . exact⟨r,O9m,b,fun j h1 h2=>by
        by_cases q:j=m
        . rw[q];omega
        . exact ?wR⟩
  exact ?t6
 exact⟨r,t,hr,?uZ,?u6⟩
def unit(e:Int)(j:Nat):?l:=fun c=>if c=j then e else 0
noncomputable abbrev tr(T:Mat):Mat:=fun i j=>T j i
structure Hy(n w r:Nat)(e:Int)(T:Mat):Prop where
 rn:?dM
 rw:?dC
 row0:?uD
 col0:?oO
 rows:?oF
 cols:?uF
theorem Hy.flip[?j0](h:?hU):Hy w n r e ?c6:=⟨h.rw,h.rn,fun i c h1 h2 h3=>?k0 c i h3 h1 h2,fun i c h1 h2 h3=>h.row0 c i h2 h3 h1,h.cols,h.rows⟩
theorem Rt{n w r r':Nat}{e:Int}{T:Mat}[?f](he:0<e)(hr:?dC)(hr':r'<=n)(hst:C8 w r' T t)(hz:∀i c,r'<=i->?vX)[?x8] :
 r'=r/\(?lV)/\?hX:=by
 have tl:∀j,j<r'->t j<r:=fun j hj=>by
  ext g5;have p:=?hP;rw[hc j ?p ?c z (?c9 j hj)]at p;omega
 have main:∀j,j<=r->j<=r'/\(∀k,k<j->t k=k)/\∀k,k<j->?Z∣e:=by
  intro j
  induction j with
  | zero=>intro _;exact⟨?bF,?qY,?qY⟩
  | succ j ih =>
    intro hj;obtain⟨a,b,c⟩:=?bB;obtain⟨x,hx⟩:=(Kr j O9m).sub hr' hz;have v0:∀k,k<j->?M e j ?a8=0:=fun k hk=>by rw[b k hk];exact ?e O9m
    obtain⟨x0,x1⟩:=?k3 hx j a v0;have ej:?jT=e:=?o
    have lt:j<r':=by
     ext g5
     have:?jT=0:=by
      rw[?vD];exact ?zA ?c
     omega
    have tj:t j=j:=by
     refine qj1 ?i3 (?eM j lt)
     have:?jT=0:=by
      rw[?vD];refine ?D ?i9;by_cases e1:k<j
      . rw[x0 k e1];simp
      . rw[?d6 k j hk (qb3 z (?s1 j k ?c hk))];simp
     omega
    have d:=x1 lt;rw[tj,ej]at d;refine⟨lt,?i9,?i9⟩
    . by_cases e1:k=j
      . rw[e1];exact tj
      . exact b k O9m
    . by_cases e1:k=j
      . rw[e1];exact⟨x j,by rw[d,qf9]⟩
      . exact c k O9m
 obtain⟨a,b,c⟩:=main r ?h;refine⟨qj1 ?i3 a,b,c⟩;have:=tl r z;have:=?eM r z;omega
theorem Wo[?j0][?f](FQ:?dM)(hrw:?dC)[?xK][?x8]:?uF:=by
 have ch:∀j,∃x:?l,j<r->∀c,c<w->?r9=?y7 ?dA r:=fun j=>by
  by_cases hj:j<r
  . obtain⟨x,hx⟩:=(Kr j hj).sub FQ hz;exact ?vG
  . exact⟨?hA,fun z=>?f3 z hj⟩
 obtain⟨X,hX⟩:∃X:?w9,∀j,j<r->∀c,c<w->?r9=Ai (fun k=>X j k*?dA) r:=Classical.axiomOfChoice ch
 have key:∀i,i<r->∀j,j<r->Ai (fun c=>?c4*X c j) r=?pW:=by
  intro i hi
  have hz0:∀c,c<w->(?pT) c=?nZ:=by
   intro c hcw
   have e1:?nZ=Ai (fun j=>Ai (fun d=>?k7*?fX) r+?cI*((if j=i then 1 else 0)*(e*?fX))) r:=by
    refine Ag fun j _=>?_;rw[Int.sub_mul,←Cv];by_cases z:i=j
    . subst z;rw[?o,?o];omega
    . rw[?a0,?e fun y=>z y.symm];omega
   rw[e1,Cd,Ay,Da (fun j=>e*?fX) i r,?n hi,Bw]
   have e2:Ai (fun d=>Ai (fun j=>?k7*?fX) r) r=Ai (fun d=>T i d*?M e d c) r:=by
    refine Ag ?lZ;rw[hX d hd c hcw,←Ay];exact Ag fun j _=>qe1 ..
   rw[e2];show ?bT=_;by_cases hcr:c<r
   . rw[?aP (j:=c) hcr fun d hd hne=>by show ?zD 0;rw[?e ?l8];simp];show ?bT=?c4*(if c=c then e else 0)+-1*(e*?c4);rw[?o,qf9];omega
   . rw[?D fun d hd=>by show ?zD 0;ext aX;simp,hc i c ?c ?c hcw];simp
  obtain⟨a,_⟩:=?k3 hz0 r ?h ?hD;intro j hj;have:=a j hj;omega
 intro i hi;refine⟨fun c=>if c<r then X c i else 0,fun c hcn=>?_⟩;show ?M e i c=?q5
 have e1:?q5=?s9:=by
  have:∀m,r<=m->m<=w->?yH m=?s9:=by
   intro m
   induction m with
   | zero =>
     intro h1 _;have:r=0:=O9m
     subst this;rfl
   | succ m ih =>
     intro h1 h2;by_cases q:r=m+1
     . subst q;refine ?lL;rw[?n hk,qf9]
     . show Ai _ m+(if m<r then X m i else 0)*T c m=_;rw[ih ?c ?c,?k];simp
  exact ?K w hrw ?h
 rw[e1];by_cases hcr:c<r
 . rw[key c hcr i hi];rfl
 . rw[?D fun k hk=>by rw[hz c k ?c hcn ?c];simp];exact ?e O9m
theorem Ec.square{n w r:Nat}{e:Int}{T T':Mat}(s:?kH)[?j1]:Hy n w r e T'/\∃t,?tX/\(?lV)/\∀j,j<r->T' j j∣e:=by
 obtain⟨r',t,hr',hst,hz⟩:=s.st
 have hc:∀i c,i<n->r<=c->?wB:=fun i c hi h1 h2=>by
  obtain⟨x,hx⟩:=s.fwd i hi;rw[hx c h2];exact ?D fun k hk=>by rw[?k0 k c hk h1 h2];simp
 have Kr:∀j,j<r->In w n T' ?uC:=fun j hj=>(h.rows j hj).trans s.bwd;obtain⟨e1,e2,e3⟩:=Rt he h.rw hr' hst hz hc Kr;subst e1;exact⟨⟨h.rn,h.rw,hz,hc,Kr,Wo h.rn h.rw hst hz hc Kr⟩,t,hst,e2,e3⟩
theorem JG[?j0][?f][?j1](hst:?tT)(ht:?lV)(hd:?hX){i c:Nat}(hi:i<n)(hc:c<w):?qW:=by
 by_cases a:i<r
 . by_cases b:c<r
   . have l:=ql4 he (hd c b);rcases qk5 i c with z | z | z
     . have:=hst.red i c z b;rw[ht c b]at this;omega
     . subst z;have:=?iS i a;rw[ht i a]at this;omega
     . rw[?d6 i c a (by rw[ht i a];exact z)];omega
   . rw[?k0 i c hi ?c hc];omega
 . rw[h.row0 i c ?c hi hc];omega
theorem FU{n w r:Nat}{T:Mat}[?f](FQ:?dM)[?xK]:∀i,i<r->?zW (?kI):=by
 have main:∀m i,i<m->m<=r->?zW (?fF):=by
  intro m
  induction m with
  | zero=>intro i hi;omega
  | succ m ih =>
    intro i hi hm;by_cases q:i<m
    . exact ih i q O9m
    have qi:i=m:=O9m
    subst qi
    have up:∀k,k<=i->In n w ?c6 (fun d=>?y9 k):=by
     intro k
     induction k with
     | zero=>intro _;exact ?hR ..
     | succ k ihk =>
       intro hk;have hk2:=ih k O9m O9m
       obtain⟨g,hg⟩:∃g,?e2=?jE*g:=by
        have:∀m,k+1<=m->∃g,?wO=?jE*g:=by
         intro m
         induction m with
         | zero=>intro h;omega
         | succ m ihm =>
           intro h;by_cases z:k+1=m+1
           . exact ?uG
           . ext wW
        exact ?tQ
       refine((ihk O9m).mix hk2 1 (T k ?aN*g)).congr ?uV;show 1*Ai _ k+?zG g ?jE=Ai _ k+?zG ?e2 1;rw[hg];by_cases z:d=k
       . rw[?aD,?aD];grind
       . rw[?a0,?a0];omega
    have col:In n w ?c6 (tr T ?aN):=?u (?c9 i O9m);refine(col.mix (up i ?h) (?e2) ?cI).congr ?lZ;show ?e2*T d ?aN+-1*?y9 i=?jX;by_cases z:d<i
    . rw[?aP (j:=d) z fun l hl hne=>by rw[?e ?l8];simp,?o];rw[show ?jX=0 from ?k]
      grind
    . rw[?D fun l hl=>by ext aX;simp];by_cases z2:d=i
      . subst z2;rw[show ?M (?uI) d d=?uI from ?o];show _=?g ?c2 d*T d (t d);omega
      . rw[show ?jX=0 from ?e z2]
        have:T d ?aN=0:=by
         by_cases z3:d<r
         . exact ?r2 z3 O9m
         . exact hz d _ O9m hd (?c9 i O9m)
        ext b7
 intro i hi
 obtain⟨g,hg⟩:∃g,?kI=?fF*g:=by
  have:∀m,i+1<=m->∃g,?wO=?fF*g:=by
   intro m
   induction m with
   | zero=>intro h;omega
   | succ m ihm =>
     intro h;by_cases z:i+1=m+1
     . exact ?uG
     . ext wW
  exact ?K r hi
 refine((main r i hi ?h).mix (?hR ..) g 0).congr ?uV;show g*(if d=i then ?fF else 0)+0*0=if d=i then ?kI else 0
 by_cases z:d=i
 . rw[?aD,?aD,hg];grind
 . rw[?a0,?a0];omega
theorem Us.square{n w:Nat}{T T' Mg:Mat}{r:Nat}[?f][?x0]:?dC/\Hy n w r (?e4) Mg/\∃u,C8 n r ?gO u/\(?wF)/\∀j,j<r->Mg j j∣ ?e4:=by
 ext x5;obtain⟨q,u,hq,Z6,nH⟩:=s2.st
 have hrw:?dC:=by
  by_cases z:r=0
  . omega
  . have:=?eM ?dO O9m;have:=?c9 ?dO O9m;omega
 have hc:∀i c,i<w->r<=c->c<n->tr Mg i c=0:=fun i c hi h1 h2=>by
  obtain⟨x,hx⟩:=s2.fwd i hi;rw[hx c h2];exact ?D fun k hk=>by rw[show tr T' k c=0 from hz c k h1 h2 hk];simp
 have Kr:∀j,j<r->In n w ?gO (?M (?e4) j):=fun j hj=>(FU hr hst hz j hj).trans ?h6;obtain⟨e1,e2,e3⟩:=Rt he hr hq Z6 nH hc Kr;subst e1;have sq:Hy w n q (?g (?y2 T' ?p) q) ?gO:=⟨hrw,hr,nH,hc,Kr,Wo hrw hr Z6 nH hc Kr⟩
 exact⟨hrw,?kV,u,Z6,e2,e3⟩
theorem lU:∀{n:Nat}{A:Mat},(∀r c,r<n->c<n->?q2<=1)->(∀c r r',c<n->r<n->r'<n->?e5≠0->A r' c≠0->r=r')->?pJ<=1
 | 0,_,_,_=>by simp[det]
 | n+1,A,h1,h2=>by
   show ?vT<=1;by_cases e:∃r,r<n+1/\A r 0≠0
   . obtain⟨r,hr,hne⟩:=e
     rw[?aP (j:=r) hr fun k hk hkr=>by
      have:A k 0=0:=qg2 fun z=>hkr (h2 0 k r ?c hk hr z hne);ext b7]
     rw[qb0,qb0,V6,qf3]
     have ih:=lU (n:=n) (A:=Fz A r) (fun x c hx hc=>h1 _ _ ?a2 O9m) fun c x x' hc hx hx' a b=>by
      have:=h2 ?P (if x<r then x else x+1) (if x'<r then x' else x'+1) O9m ?a2 ?a2 a b;split at this<;>split at this<;>omega
     exact qa6 (qf0 (h1 r 0 hr O9m) ih) ?cN
   . rw[?D fun k hk=>by
      have:A k 0=0:=qg2 fun z=>e ⟨k,hk,z⟩;ext b7]
     decide
theorem BK{n p:Nat}(A:Mat)[?b9](a:?l)(U:Mat):∀m,?xW ?p9=?mW
 | 0=>by
   show ?zT (Bx A p fun c=>?bT)=0;exact Sy hp fun c _=>Bi ..
 | m+1=>by
   have e:(fun c=>Ai (fun k=>a k*?fK) (m+1))=fun c=>1*(?p9) c+?eE:=?U fun c=>by
    show ?lB+?eE=1*?lB+?eE;omega
   rw[e,Eu A _ _ 1 (a m) hp,BK A hp a U m];show 1*?mW+a m*?xW (U m)=?mW+a m*?xW (U m);rw[qd0]
def Vn(s:?x):Mat:=fun r l=>if s l=r then 1 else 0
def CN(T:Mat)(s:?x)(k:Nat):Mat:=fun r l=>if r<k then Vn s r l else T r ?a5
theorem jH[?n4]{k:Nat}(hk:k<i):?oZ=?Z*?A1 (CN T s ?aC):=by
 have e0:?mC=Bx (?mC) k fun c=>Ai (fun j=>T k j*?gN) ?aC:=by
  funext r c
  by_cases z:r=k
  . subst z;rw[Bi];show ?zH r;ext aX;by_cases y:s c<r+1
    . rw[?aP (j:=s c) y fun j _ hne=>by
       have:?gN=0:=?e ?vH;ext b7]
      have:Vn s ?bX c=1:=?o;ext b7
    . rw[?D fun j hj=>by
       have:?gN=0:=?k;ext b7]
      exact h r ?bX hk O9m
  . rw[Bt z]
 ext xA
 . congr 1
   refine C7 ?bZ;by_cases z:r=k
   . subst z;rw[Bi];show _=if r<r+1 then ?dP else ?dQ
     ext g4
   . rw[Bt z];show(if r<k then ?dP else ?dQ)=if r<k+1 then ?dP else ?dQ
     by_cases y:r<k
     . ext iX
     . ext iW
 . ext x4;show(if j<k then ?gN else T j ?bX)=_;ext g4
theorem gX[?n4]:∀k,k<=i->?A1 (?rP)=?jJ*?oZ
 | 0,_=>by
   show _=1*?A1 (CN T s 0);rw[qd0]
   exact C7 fun r c hr hc=>by
    show _=if r<0 then ?dP else ?dQ
    ext aX
 | k+1,hk=>by
   rw[gX h s k ?c,jH h s ?c];ext xL
theorem UT[?n4]:(?pO).natAbs<=(?vF).natAbs:=by
 rw[gX h s i ?h,qb0]
 have e:?y8 (CN T s i) 1:=by
  have k:∀r c,r<i->CN T s i r c=if s c=r then 1 else 0:=fun r c hr=>by
   show ?zH i;rw[?kS];rfl
  refine lU (?bZ) fun c r r' hc hr hr' a b=>?_
  . rw[?w2];split<;>decide
  . rw[?w2]at a;rw[k r' c hr']at b;split at a
    . split at b
      . omega
      . exact ?f3 rfl b
    . exact ?f3 rfl a
 exact qa6 (qe3 _ e) O9m
def N3(n:Nat)(G:?a3)(M:Mat)(D:Nat):Prop:=∀i,i<=n->∀s:?x,(?wQ)->(det i (?yL M)).natAbs<=D
theorem Dq.detsD[?j8][?a9][?f][?j2][?cS](hi:i<=m){s:?x}(hs:?wQ):?y8 ?mP D:=by
 rw[h.good.det i ?h s];exact hD i hi s hs
theorem Dq.headD[?j8][?a9][?f][?j2][?cS](hi:i<=m){j:Nat}(hj:j<i):?cG<=D:=by
 have:=rH ?kB (?kO hD hi (s:=t) h.pg) hj;have p:=?qF;omega
theorem Dq.rowD[?j8][?a9][?f][?j2][?cS](hi:i<=m)[?j3]{r c:Nat}(hr:r<i)(hc:G c):?d3<=i*D:=by
 have:=pN ?kB ?d8 (?u hr) (κ:=1) (D:=D) (tX c hc) (?V) fun k hk=>?kO hD hi ?hF
 . rw[qf3]at this;ext aA
 . rw[qf3];rcases qk5 r j with z | z | z
   . obtain⟨a,b⟩:=?iN r j z hj;omega
   . rw[z];exact ?bV
   . rw[h.st.s0.low hr z];exact ?bF
 . cases l with
   | zero=>exact hc
   | succ l=>exact h.pg _ ?a2
theorem Dq.putD[?j8][?a9][?f][?j2][?cS](hm:i<=m)(hi:i<n)[?j3]{b0 π b:Nat}(hM:∀c,G c->(M i c).natAbs<=2 ^ b0)(h1:D<=?A)(h2:i*D<=?s)(h3:b0<=π)(h4:b0<=b):?rT:=by
 refine⟨hi,?kP,?d8,fun j hj=>qa6 (h.headD hD hm hj) h1,fun r c hr hc=>qa6 (h.rowD hD hm tX hr hc) h2,?dE,?hF⟩
 . rw[?mH i c ?h];exact qa6 (hM c hc) (C6 h4)
 . rw[?mH i _ ?h];exact qa6 (hM _ (h.pg l hl)) (C6 h3)
theorem Hy.free[?j0][?j1]{m:Nat}(hm:m<=r){x:?l}(hx:∀c,c<w->?jZ=0):∀k,k<m->x k=0:=by
 intro l hl;obtain⟨y,hy⟩:=h.cols l O9m;have e1:?uE=0:=?D fun c hc=>by rw[?lU];simp
 have e2:?uE=?y7 ?p5 m:=by
  rw[show(fun c=>y c*?jZ)=fun c=>?y7 (y c*?dA) m from ?U fun c=>by
   rw[←Ay];exact Ag fun k _=>?w]
  rw[Bw];refine ?lL;rw[hy k (by have:=h.rn;omega),←Ay]
 rw[e2,?aP (j:=l) hl fun k _ hne=>by
  have:?p5=0:=?e hne;ext b7]at e1
 have:?M e l l=e:=?o;rw[this]at e1;rcases qo2.mp e1 with z | z
 . exact z
 . omega
theorem pK[?g8]{e:Int}{T M B0 R B:Mat}[?j1](hM:∀k c,k<n->c<w->M k c=?dA)(hi:i<r)(g:?zP ?i M)(hW:w+n<=W)(d:Fb n w M B0):∃c,c<w/\?cQ≠0:=by
 have rn:=h.rn;refine qg2 ?iM;have z0:∀c,?sV:=fun c hc=>qg2 fun y=>z ⟨c,hc,y⟩;obtain⟨x,hx⟩:=(g.eqv ?i ?h).1 i O9m
 have x0:=h.free he (m:=i+1) O9m (x:=x) fun c hc=>by
  rw[←z0 c hc,hx c ?c];exact Ag fun k hk=>by rw[hM k c ?c hc]
 obtain⟨c,hc,hne⟩:=(g.dual d).row (i:=i) O9m;refine hne ?_;rw[hx (w+c) ?c];exact ?zA hk
structure P4(n W w r:Nat)(kt:?x)(hd:?l)(M:Mat):Prop where
 zero:∀j c,?a6->j<n->c<?cY->M j c=0
 inc:∀j k,?a6->j<k->k<n->?cY<kt k
 ge:∀j,?a6->j<n->w<=?cY
 lt:∀j,?a6->j<n->?cY<W
 head:∀j,?a6->j<n->M j ?bS=hd j
 pos:∀j,?a6->j<n->0<hd j
 red:∀k j,?a6->k<j->j<n->0<=M k ?bS/\M k ?bS<hd j
structure Cc(n W w r i:Nat)[?xN][?v][?E]:Prop where
 st:?pV
 tab:∀j,j<r->j<i->t j<w
 ker:∀j,?a6->j<i->t j=?cY/\?C=hd j
theorem Cc.start(n W w r:Nat)[?xN][?v]:Cc n W w r 0 G M B0 kt hd t M B0:=⟨Dq.start ..,?pY,?pY⟩
theorem Cc.next[?g8]{G:?a3}{M B0 R B R1 B1 R2 B2:Mat}[?cR]{Y spot st:Nat}(h:?u3)(hi:i<r)(hst:st<w)(hs:?mM)(I:SK n W w i G R B ?gJ Y R1 B1)(D:N2 n W w i R1 B1 ?gJ 0 R2 B2):?z2 ?gJ:=by
 refine⟨h.st.next I D,?lS,?mI⟩;unfold insT;split
 . exact ?rN
 . split
   . exact hst
   . exact h.tab ?dW O9m O9m
theorem Cc.skip[?g8][?a9][?cR][?fZ](hn:i<n){spot c:Nat}[?bQ](hc:?fI):?dT:=by
 rw[?pC];refine K.zero i c hi hn ?_;have g:=K.ge i hi hn;by_cases z:?dY
 . have:=h.tab ?d z hs;omega
 . have:=(?iQ ?d O9m hs).1;have:=K.inc ?d i O9m hs hn;omega
theorem Pi(R:Mat)(i:Nat):?z R i i=R:=by
 funext r
 ext e8;by_cases a:r<i
 . rw[?n a]
 . rw[?e a];by_cases b:r=i
   . rw[?n b,b]
   . rw[?e b,?k]
theorem Cc.ins[?g8][?a9][?cR]{π b:Nat}[?fZ](H:?rT)(hG:G ?bK):SK n W w i G R B ?a4 (?bI+i*?bM) R B/\?v1:=by
 have all:?v1:=by
  intro spot
  induction spot with
  | zero=>intro _;exact Dj.start H
  | succ s ih=>intro hs;exact(?bB).skip fun c hc=>h.skip K hi ?b3 O9m hc
 refine⟨?_,all⟩;have e:R i ?bK=hd i:=by ext nB;exact K.head i hi ?b3
 have p:=K.pos i hi ?b3;have:=(all i ?h).ins H ?h (st:=kt i) (fun c hc=>by rw[?pC];exact K.zero i c hi ?b3 hc) O9m (K.lt i hi ?b3) hG h.st.pg (fun z=>O9m);rw[Pi,Pi,?k,?k]at this;ext aA
theorem Cc.nextK[?g8]{G:?a3}{M B0 R B R2 B2:Mat}[?cR]{Y:Nat}[?fZ](hn:i<n)(I:SK n W w i G R B ?a4 Y R B)(D:N2 n W w i R B ?a4 0 R2 B2):?z2 ?a4:=by
 ext x7;ext mZ
 refine⟨h.st.next I D,fun j h1 h2=>by rw[?r5];exact ?rN,?lS⟩;rw[D.hd j ?c];by_cases z:j=i
 . rw[z,t2];exact⟨rfl,by ext nB;exact ?rQ⟩
 . rw[?r5];exact ?iQ j h1 O9m
theorem Cc.done{n W w r:Nat}[?a9][?cR](K:?r1)(h:?z8 n):P4 n W w r kt hd R:=by
 refine⟨fun j c h1 h2 h3=>?_,K.inc,K.ge,K.lt,?lS,K.pos,fun k j h1 h2 h3=>?_⟩
 . rw[←(?rO).1]at h3;exact h.st.st.zero j c h2 h3
 . obtain⟨a,b⟩:=?rO;rw[←a];exact b
 . obtain⟨a,b⟩:=?iQ j h1 h3;rw[←a,←b];exact ?r0 k j h2 h3
def dI(V Z:Mat)(k:Nat):Mat:=fun r l=>if r<k then Z r l else V r l
theorem jS[?x6]{k:Nat}(hk:k<i):?lY=?Z*?zJ ?aC:=by
 have e0:?lY=?A1 (Bx (dI V Z k) k fun c=>Ai (fun j=>T k j*Z j c) ?aC):=C7 fun r c hr hc=>by
  by_cases z:r=k
  . subst z;rw[Bi];show(if r<r then ?fP else ?e1)=_;ext aX;exact ?h8
  . rw[Bt z]
 ext xA
 . congr 1
   refine C7 ?bZ;by_cases z:r=k
   . subst z;rw[Bi];show _=if r<r+1 then ?fP else ?e1
     ext g4
   . rw[Bt z];show(if r<k then ?fP else ?e1)=if r<k+1 then ?fP else ?e1
     by_cases y:r<k
     . ext iX
     . ext iW
 . ext x4;show(if j<k then Z j c else V j c)=_;ext g4
theorem AH[?x6]:∀k,k<=i->?A1 V=?jJ*?lY
 | 0,_=>by
   show _=1*?zJ 0;rw[qd0]
   exact C7 fun r c hr hc=>by
    show _=if r<0 then ?fP else ?e1
    ext aX
 | k+1,hk=>by
   rw[AH h k ?c,jS h ?c];ext xL
theorem y3{w r:Nat}{U V:Mat}(hw:?dC)(hU:∀k c,k<r->c<k->?fK=0)(hV:∀l,l<r->In w r U (V l))(h0:∀l i,l<r->i<r->l<i->V l i=0):?zV U r∣ ?s4:=by
 have ch:∀l,∃x:?l,l<r->∀c,c<w->V l c=?y7 ?fK r:=fun l=>by
  by_cases hl:l<r
  . obtain⟨x,hx⟩:=hV l hl;exact ?vG
  . exact⟨?hA,fun z=>?f3 z hl⟩
 obtain⟨X,hX⟩:∃X:?w9,∀l,l<r->∀c,c<w->V l c=Ai (fun k=>X l k*?fK) r:=Classical.axiomOfChoice ch;have e1:det r (tr V)=?s4:=We (A:=tr V) fun i l hi hl=>h0 l i O9m hi hl;have e2:=AH (i:=r) (T:=tr U) (V:=tr V) (Z:=tr X) (fun i l hi hl=>?_) r ?h
 . rw[e1]at e2;exact⟨_,e2⟩
 . show V l i=_;rw[hX l hl i ?c]
   have:∀m,m<=r-?i->?wT=Ai (fun j=>tr U i j*tr X j l) ?i:=by
    intro m
    induction m with
    | zero=>intro _;exact Ag fun k _=>?kF
    | succ m ih =>
      intro hm;show ?wT+X l ?gH*U ?gH i=_;rw[?f7,hU ?gH i ?c ?c];omega
   have:=?K (r-?i) ?h;rw[show i+1+(r-?i)=r by omega]at this;ext aA
theorem Xc[?S]{n:Nat}(h:?lA):∀m,m<=n->?aV<=?bY:=fun m hm=>by
 have:∀d,m+d<=n->?aV<=?gY:=by
  intro d
  induction d with
  | zero=>intro _;exact ?vK _
  | succ d ih =>
    intro hd;refine qt8 (?bB) ?_;show ?gY<=?gY*f ?h2;have p:=Cw (n:=m+d) ?dG;have q:=h ?h2 O9m;have:=ql6 (show 1<=f ?h2 by omega) (?yU 0 ?gY);rw[ql3]at this;ext aA
 have:=?K (n-m) O9m;rw[show m+(n-m)=n by omega]at this;ext aA
theorem MX{w r:Nat}{T:Mat}{E:Nat}(hp:?sQ)(h:∀i c,i<r->?sF)[?xR]:?oS:=fun i hi s hs=>by
 have t:=UT (i:=i) (T:=?hC) (fun a c ha hac=>by
  show(?p3)=0;by_cases z:c<w
  . rw[?aD];exact h a c O9m z hac
  . rw[?a0]) s
 have e:(?pO)=det i (?yL (?hC)):=C7 fun a c ha hc=>(?n (hs c hc)).symm;rw[e];refine qa6 t ?_;by_cases z:i<=w
 . have e2:?vE=?vF:=by
    have:∀m,m<=w->?qG=?g ?eR m:=by
     intro m
     induction m with
     | zero=>intro _;rfl
     | succ m ih =>
       intro hm;show _*_=_*_;rw[?f7];show ?zC _;ext g4
    exact ?K i z
   rw[e2];have a:=Xc (n:=r) (f:=?gR) hp i hi;have b:=Cw (n:=i) (f:=?gR) fun k hk=>hp k O9m;omega
 . have e2:?vE=0:=by
    have:∀m,w<m->?qG=0:=by
     intro m
     induction m with
     | zero=>intro _;omega
     | succ m ih =>
       intro hm;show ?zC 0;by_cases y:w<m
       . rw[ih y];simp
       . ext aX;simp
    exact ?tQ
   rw[e2];exact ?bF
structure E7(n w r:Nat)(E:Nat)(e:Int)(T:Mat):Prop where
 sq:?hU
 low:∀i c,i<n->?sF
 pos:?sQ
 dvd:?hX
 prod:?g ?eR r<=E
 le:∀i c,i<n->c<w->?qW
 red:∀k j,k<j->j<r->0<=T j k/\T j k<?gX
theorem DR[?g1]{T:Mat}{u:?x}(he:0<e)(sq:?hU)(hst:C8 n r ?c6 u)(hu:?wF)(hd:?hX)[?xR]:?qC:=by
 refine⟨sq,fun i c hi hc hic=>?_,?V,hd,hE,fun i c hi hc=>JG he ?kV hst hu hd hc hi,fun k j hk hj=>by
  have:=hst.red k j hk hj;rw[hu j hj]at this;ext aA⟩
 . by_cases z:c<r
   . exact ?d6 c i z (by rw[hu c z];exact hic)
   . exact sq.col0 i c hi O9m hc
 . have:=?hP;rw[hu j hj]at this;ext aA
theorem Ec.going[?g1]{T T':Mat}(s:?kH)(he:0<e)[?e9]:E7 w n r E e (tr T'):=by
 obtain⟨sq,t,hst,ht,hd⟩:=s.square he h.sq;have pos:∀j,j<r->0<T' j j:=fun j hj=>by have:=?hP;rw[ht j hj]at this;ext aA
 refine DR he ?kV hst ht hd ?_;have rn:=h.sq.rn;have rw':=h.sq.rw;have d:=y3 (w:=w) (r:=r) (U:=T') (V:=T) rw' (?yK ?d6 ht) (fun l hl=>(s.bwd l O9m).sub rn sq.row0) (fun l i hl hi hli=>?bA l i O9m O9m hli);have p:=Cw (n:=r) (f:=?gR) ?a1;exact qt8 (ql4 p d) h.prod
theorem Us.going[?g1][?nF](he:0<e)[?e9]:E7 n w r E e Mg:=by
 obtain⟨T',s1,s2⟩:=s;exact s2.going he (s1.going he h)
theorem Us.first{n w r:Nat}{E:Nat}{T T' Mg:Mat}[?f][?x0](hE:?e4<=E):E7 n w r E (?e4) Mg:=by
 obtain⟨hw,sq,u,hu,wL,hd⟩:=Us.square (T:=T) hr hst hz s2;ext x5;refine DR he sq hu wL hd ?_;have d:=y3 (w:=n) (r:=r) (U:=tr Mg) (V:=fun l i=>T' i ?m) hr (?yK hu.zero wL) (fun l hl=>(?h6 ?m (?c9 l hl)).sub hw sq.flip.row0) (fun l i hl hi hli=>?r2 hi hli);exact qt8 (ql4 he d) hE
theorem E7.dets[?g1]{T:Mat}[?e9]:?oS:=MX ?a1 (fun i c hi=>?bA i c (by have:=h.sq.rn;omega)) h.prod
def lG(n w r L m:Nat)(T:Mat):Prop:=?jL\/(∃k,k<=r/\?nQ/\?oN<=m)\/(∃k,k<r/\?sK/\(r-k-1)*?fQ+(?Z).natAbs.log2+1<=m)
theorem E7.straight[?g1]{T:Mat}[?e9](c:Mh n w r T):?jL:=fun i j hi hj hne=>by
 by_cases z:i<r
 . exact c.2.2.2.1 i j z hj (?l8)
 . exact h.sq.row0 i j O9m hi hj
theorem log2_lt{a b:Nat}(ha:0<a)(h:a∣b)(hlt:a<b):a.log2<b.log2:=by
 obtain⟨k,hk⟩:=h
 have k2:2<=k:=by
  rcases k with _ | _ | k
  . omega
  . omega
  . omega
 have b2:2*a<=b:=by
  rw[hk,?wI 2 a];exact qe3 _ k2
 have e:?vZ=a.log2+1:=Nat.log2_two_mul O9m
 have m:?vZ<=b.log2:=by
  rw[Nat.le_log2 ?c];exact ?zF b2
 omega
theorem lG.start{n w r L:Nat}{E:Nat}{e:Int}{T:Mat}[?e9]:lG n w r L (r*?fQ) T:=?aU (?aW ⟨0,?bF,⟨?bF,?bF,?eX,?l4,fun i j _ hj=>O9m⟩,by rw[qw2];exact ?bV⟩)
theorem E7.next{n w r L m:Nat}{E:Nat}{e:Int}{T Mg:Mat}(he:0<e)(hL:e.natAbs.log2<=L)[?e9](s:?u4)(f:lG n w r L m T)(ns:¬?jL):0<m/\lG n w r L (m-1) Mg:=by
 have g:=s.going he h;rcases f with f|⟨k,hk,c,hm⟩|⟨k,hk,c,hm⟩
 . exact ?f3 f ns
 . have kr:k<r:=by
    refine Nat.lt_of_le_of_ne hk fun z=>ns ?_;subst z;exact h.straight c
   have e1:?oN=(r-k-1)*?fQ+?fQ:=by rw[show r-k=(r-k-1)+1 by omega,qf4,qf3,Nat.add_sub_cancel]
   refine ?nK;obtain⟨c2,q⟩:=s.next c;rcases q with q | q
   . exact ?aW q
   . refine ?aU (?aU ⟨k,kr,q,?_⟩);have d:=h.dvd k kr;have d2:=g.dvd k kr;have p:=g.pos k kr
     have l:(?f5).natAbs.log2<=L:=by
      refine qa6 ?_ hL;rw[Nat.le_log2 ?c];refine ?zF ?_;have:=ql4 he d2;omega
     omega
 . refine ?nK;rcases s.less c with q|⟨q1,q2,q3⟩
   . refine ?aU (?aW ⟨k+1,O9m,q,?_⟩);rw[show r-?aC=r-k-1 by omega];omega
   . refine ?aU (?aU ⟨k,hk,q1,?_⟩);have p:=g.pos k hk;have p0:=?k1;have:=log2_lt (a:=(?f5).natAbs) (b:=(?Z).natAbs) O9m (qt7.mpr q2) O9m;omega
universe Lat
namespace Lat
structure XW[?nD]:Prop where
 e1:r1=x1*A+y1*B
 e2:r2=x2*A+y2*B
 dt:?fC=1\/?fC=-1
 dv:∀d:Int,d∣r1->d∣r2->d∣A/\d∣B
structure yP[?nD]:Prop where
 a:?jU
 rr:0<=r1*r2
 r0:?lK
 xx:x1*x2<=0
 yy:y1*y2<=0
 lx:?o1
 ly:?wK
theorem gY{u v:Int}(h:0<=u*v):(u+v).natAbs=u.natAbs+v.natAbs:=by
 rcases Int.lt_trichotomy u 0 with z | z | z
 . have:v<=0:=by
    ext cT;have:=?oD z y;omega
   omega
 . subst z;omega
 . have:0<=v:=by
    ext cT;have:=?oC z y;omega
   omega
theorem yP.next_le[?g0](h:?kU):?v0:=by
 have r1p:1<=r1.natAbs:=by have:=h.r0;omega
 have hA:A.natAbs=(?o6).natAbs:=by
  have e:(?fC)*A=?o6:=?qI
  rcases h.a.dt with d | d
  . rw[d,qd0]at e;rw[e]
  . rw[d]at e;have:A.natAbs=(-1*A).natAbs:=O9m
    rw[this,e]
 have hB:B.natAbs=(?jQ).natAbs:=by
  have e:(?fC)*B=-(?jQ):=?qI
  rcases h.a.dt with d | d
  . rw[d,qd0]at e;rw[e,qc2]
  . rw[d]at e;have:B=?jQ:=O9m
    rw[this]
 have k1:0<=?qM:=by
  have:?qM=(-(y1*y2))*(r1*r2):=?w
  rw[this];exact qj7 (by have:=h.yy;omega) h.rr
 have k2:0<=?tO:=by
  have:?tO=(-(x1*x2))*(r1*r2):=?w
  rw[this];exact qj7 (by have:=h.xx;omega) h.rr
 rw[gY k1,qb0]at hA;rw[gY k2,qb0]at hB;have a1:x2.natAbs*1<=x2.natAbs*r1.natAbs:=?sB;have a2:y2.natAbs*1<=y2.natAbs*r1.natAbs:=?sB;omega
theorem XW.step[?g0](h:?jU)(q:Int):XW A B r2 x2 y2 (r1-q*r2) (x1-q*x2) (y1-q*y2):=by
 refine⟨h.e2,?_,?_,fun d h1 h2=>h.dv d ?_ h1⟩
 . rw[h.e1,h.e2];grind
 . have:x2*(y1-q*y2)-(x1-q*x2)*y2=-(?fC):=?w
   rw[this];rcases h.dt with z | z<;>rw[z]<;>omega
 . have:=?nM h2 (qr7 (a:=d) (b:=q) h1);have e:r1-q*r2+q*r2=r1:=O9m
   rw[e]at this;ext aA
theorem y8{r1 r2:Int}(h:0<=r1*r2)(h2:?l9):0<=?b5/\?mJ/\0<=r2*(?fA):=by
 have e:?fA=?qO:=?z6 r1 r2
 rw[e];rcases ?qA h2 with z | z
 . have r1n:r1<=0:=by
    ext cT;have:=?oC y z;omega
   have q:?b5=(-r1).fdiv (-r2):=by rw[Int.neg_fdiv_neg]
   have m:?qO=-((-r1).fmod (-r2)):=?w4
   have m0:=qs8 (a:=-r1) (b:=-r2) O9m;have m1:=qv3 (-r1) (b:=-r2) O9m;refine⟨?_,O9m,?_⟩
   . rw[q,?uK];exact ?sJ O9m O9m
   . rw[m];have:r2*-((-r1).fmod (-r2))=(-r2)*(-r1).fmod (-r2):=by rw[Int.mul_neg,qn3]
     rw[this];exact ?wL
 . have r1p:0<=r1:=by
    ext cT;have:=?oD y z;omega
   have m0:=qs8 (a:=r1) (b:=r2) z;have m1:=qv3 r1 z;refine⟨?_,O9m,?wL⟩;rw[?uK];exact ?sJ r1p O9m
theorem yP.step[?g0](h:?kU)(h2:?l9):?yC yP:=by
 obtain⟨q0,q1,q2⟩:=y8 h.rr h2;obtain⟨l1,l2⟩:=h.next_le;generalize ?b5=q at *;refine⟨⟨h.a.step q,q2,h2,?_,?_,l1,l2⟩,q1⟩
 . have:x2*(x1-q*x2)=x1*x2-?sX:=?w
   rw[this];have a:=h.xx;have b:0<=?sX:=qj7 q0 (by rw[←?pH (a:=x2)];omega);omega
 . have:y2*(y1-q*y2)=y1*y2-?nT:=?w
   rw[this];have a:=h.yy;have b:0<=?nT:=qj7 q0 (by rw[←?pH (a:=y2)];omega);omega
def EuI[?nD]:Prop :=
 ?kU\/(B<0/\r1=A/\x1=1/\y1=0/\r2=B/\x2=0/\y2=1) ∨
 (B<0/\r1=B/\x1=0/\y1=1/\r2=?iJ/\x2=1/\y2=-(?F))
theorem EuI.start{A B:Int}[?nI]:EuI A B A 1 0 B 0 1:=by
 rcases ?qA hB with z | z
 . exact ?aU (?aW ⟨z,rfl,rfl,rfl,rfl,rfl,rfl⟩)
 . refine ?aW ⟨?tZ,qj7 O9m O9m,O9m,O9m,O9m,O9m,O9m⟩
theorem O5{A B:Int}(hA:0<A)(hB:B<0):?F<=-1/\-A<=?F/\?iJ<=0/\(?iJ).natAbs<B.natAbs:=by
 have e:?iJ=A.fmod B:=?z6 A B
 have m:A.fmod B=-((-A).fmod (-B)):=?w4
 have m0:=qs8 (a:=-A) (b:=-B) O9m;have m1:=qv3 (-A) (b:=-B) O9m;have k:?F*B=A-A.fmod B:=O9m
 rw[e]
 have q1:?F<=-1:=by
  ext cT;have:=qj7 (?yU 0 ?F) (?z4 B);rw[Int.mul_neg]at this;omega
 refine⟨q1,?_,O9m,O9m⟩;ext cT;have h:=?yN (show 1<=-B by omega);have h2:-(?F)*-B=?F*B:=by rw[Int.neg_mul_neg]
 rw[h2]at h;have h3:=?yN (?vK (-B));rw[h2,Int.add_mul]at h3;have h4:A*1<=A*-B:=?wP;omega
theorem EuI.step[?g0](hA:0<A)[?xS](h2:?l9) :
 ?yC EuI:=by
 ext x3
 . exact⟨?aW (?oW).1,(?oW).2⟩
 . subst e1 e2 e3 e4 e5 e6;obtain⟨_,_,_,q⟩:=?kX;exact⟨?aU (?aU ⟨hB,rfl,rfl,rfl,rfl,O9m,O9m⟩),q⟩
 . obtain⟨q1,q2,q3,q4⟩:=?kX;ext x2
   have e7:=?sP;rw[←e4]at e7 q3 q4
   have rr:0<=B*r2:=by
    have:=qj7 (?z4 B) (?z4 r2);rw[Int.neg_mul_neg]at this;ext aA
   obtain⟨p0,p1,p2⟩:=y8 rr h2
   have p3:1<=?mL:=by
    ext cT;have:?mL=0:=O9m
    rw[this]at p1;omega
   have f1:?bL-?F*0=x2:=O9m
   have f2:?bT-?F*1=y2:=O9m
   rw[f1,f2]at e7;have e8:=e7.step (?mL);subst e1 e2 e3;refine⟨?aW ⟨e8,p2,h2,?_,?_,O9m,O9m⟩,p1⟩
   . subst e5;omega
   . generalize ?b5=p at *;have g1:y2*(1-p*y2)=-((p*y2-1)*y2):=?w
     rw[g1];have g2:1*y2<=p*y2:=qj2 p3 O9m;have:=qj7 (show 0<=p*y2-1 by omega) (?yU 0 y2);omega
theorem EuI.all[?g0][?nI][?xS] :
 ?jU/\?lK/\?o1/\?wK/\?v0:=by
 ext x2
 ext x3
 . exact⟨h.a,h.r0,h.lx,h.ly,h.next_le.1,h.next_le.2⟩
 . subst e1 e2 e3 e4 e5 e6;exact⟨e0,O9m,O9m,O9m,O9m,O9m⟩
 . obtain⟨q1,q2,q3,q4⟩:=?kX;have e7:=?sP;have f1:?bL-?F*0=x2:=O9m
   have f2:?bT-?F*1=y2:=O9m
   rw[f1,f2,←e4]at e7;subst e1 e2 e3;exact⟨e7,O9m,O9m,O9m,O9m,O9m⟩
structure Shares(A B g a b:Int):Prop where
 pos:0<g
 e:g=a*A+b*B
 dA:g∣A
 dB:g∣B
 la:a.natAbs<=B.natAbs
 lb:b.natAbs<=A.natAbs
theorem EuI.last{A B r1 x1 y1 x2 y2:Int}[?nI](h:?yD EuI 0) :
 (0<r1->?h0 A B r1 x1 y1)/\(r1<0->?h0 A B (-r1) (-x1) (-y1))/\?lK:=by
 obtain⟨k,r0,a1,a2,_,_⟩:=h.all hA hB;obtain⟨d1,d2⟩:=k.dv r1 (Int.dvd_refl _) (Int.dvd_zero _);refine⟨fun p=>⟨p,k.e1,d1,d2,a1,a2⟩,fun p=>⟨O9m,?_,?wA d1,?wA d2,O9m,O9m⟩,r0⟩;rw[k.e1,qn3,qn3];omega
theorem Shares.blend{A B g a b:Int}{π:Nat}(hA:0<A)(h:?r4)(lA:A.natAbs<=?A)(lB:B.natAbs<=?A):IX π A B a b (-(B / g)) (?f1):=by
 obtain⟨p,eA⟩:=h.dA;obtain⟨q,eB⟩:=h.dB;have g0:g≠0:=?jK
 have k1:?f1=p:=?lO
 have k2:B / g=q:=?sD
 have gn:1<=g.natAbs:=?jK
 have n1:p.natAbs<=A.natAbs:=by rw[eA,qb0];exact ?rH
 have n2:q.natAbs<=B.natAbs:=by rw[eB,qb0];exact ?rH
 rw[k1,k2];refine⟨?_,by have:=h.pos;have:=h.e;omega,?_,qa6 h.la lB,qa6 h.lb lA,O9m,O9m⟩
 . have e:=h.e
   have:g*(a*p-b*-q)=g*1:=by
    rw[ql3];refine Eq.trans ?_ e.symm;rw[eA,eB]
    grind
   exact Int.eq_of_mul_eq_mul_left g0 ?K
 . rw[eA,eB]
   grind
universe Lat
namespace Lat
open Hb
def Qn(n:Nat)(C:?a3)(δ b:Nat)(R:Mat):Prop:=∀r c,r<n->C c->?d3*?f0<?s
theorem Pt{x y a k:Int}{δ b c:Nat}(hx:?qK<?s)(hy:?q8<?s)(ha:a.natAbs<=?q)(hk:k.natAbs<=?q):?nL*?f0<2 ^ (b+c+1):=by
 have e:=?wS;rw[qb0,qb0]at e;have e2:=qb4 (?f0) e;rw[qf4,Nat.mul_assoc,Nat.mul_assoc]at e2;have p:0<?q:=Nat.two_pow_pos c;have u:a.natAbs*(?qK)<?q*?s:=qb5 (qb4 _ ha) (qq2 hx p);have v:k.natAbs*(?q8)<?q*?s:=qb5 (qb4 _ hk) (qq2 hy p);rw[?jR,qg4,qd7];omega
theorem Qn.mono{n δ b b':Nat}[?n7](hb:b<=b'):Qn n C δ b' R:=?r3
theorem Qn.add{n δ b c p q:Nat}[?n7][?n9]:Qn n C δ (b+c+1) ?cH:=fun r x hr hx=>by
 by_cases e:r=p
 . subst e;rw[Cg];exact Pt (h r x hr hx) (h q x hq hx) (show 1<=?q from qk0) (qd4 hk)
 . rw[C4 e];exact(h.mono O9m) r x hr hx
theorem Qn.blend{n δ b e p q:Nat}[?n7][?R][?x1]:Qn n C δ (b+e+1) (?t R p q x y z u):=fun r c hr hc=>by
 by_cases e1:r=p
 . subst e1;rw[?b6];exact Pt ?dN (h q c hq hc) (qd4 hx) (qd4 hy)
 . by_cases e2:r=q
   . subst e2;rw[Id];exact Pt (h p c hp hc) ?dN (qd4 hz) (qd4 hu)
   . rw[?rD];exact(h.mono O9m) r c hr hc
variable[?g6]
def BB(n W:Nat)(C:?a3)(δ β:Nat)[?cX]:Prop:=?aM n W β s.1/\?aM n n β s.2/\Qn n C δ β s.1
theorem BB.mono{n W β β':Nat}[?nA](hb:β<=β'):?xT β' s:=⟨h.1.mono hb,h.2.1.mono hb,h.2.2.mono hb⟩
def addS(p q:Nat)(k:Int)[?cX]:?dB:=(?j s.1 p q k,?j s.2 q p (-k))
def blendS(p q:Nat)(x y z u:Int)[?cX]:?dB:=(?t s.1 p q x y z u,?t s.2 p q u (-z) (-y) x)
theorem BB.add{n W β c p q:Nat}[?nA][?b9][?n9]:?xT ?s7 (?c7 p q k s) :=
 ⟨(h.1.add hp hq hk).mono O9m,(h.2.1.add hq hp (k:=-k) (by rw[qc2];exact hk)).mono O9m,(h.2.2.add hq hk).mono O9m⟩
theorem BB.blend{n W β c p q:Nat}[?nA][?R]{x y z u:Int}(hx:?t0)(hy:y.natAbs<?q)(hz:z.natAbs<?q)(hu:u.natAbs<?q):?xT ?s7 (blendS p q x y z u s) :=
 ⟨(h.1.blend hp hq ne hx hy hz hu).mono O9m,(h.2.1.blend hp hq ne (x:=u) (y:=-z) (z:=-y) (u:=x) hu (by rw[qc2];exact hz) (by rw[qc2];exact hy) hx).mono O9m,(h.2.2.blend hp hq ne hx hy hz hu).mono O9m⟩
def shrS[?v](p f:Nat)[?cX]:?vY
 | 0=>s
 | d+1=>?c7 p ?b1 (-((?k2).1 p ?f2 / (?k2).1 ?b1 ?f2)) (?k2)
theorem HE[?j9][?aZ][?f]{p f m μ β c:Nat}(P:?gS)[?xD][?xO](hc:2 ^ (m-f)*μ<?q)(b:?t9) :
 ∀d,f+d<=m->LJ n W w lo R B t p f m ?b1 μ ?dU (?gF).2/\?xT (β+d*?P) (?gF)/\∀l c,l≠p->?dU l c=R l c:=by
 intro d
 induction d with
 | zero=>intro _;exact⟨?o8 h,b.mono O9m,?d4⟩
 | succ d ih =>
   intro hd;obtain⟨i1,i2,i3⟩:=?bB;obtain⟨q1,q2⟩:=i1.step P O9m (show f+d<m by omega) hp hm hn hpf;have e:?rJ=R ?b1 ?f2:=i3 _ _ O9m
   have qb:(-(?dU p ?f2 / ?rJ)).natAbs<?q:=by
    rw[qc2,e];refine qb5 q1 (qb5 ?_ hc);exact ?q4
   refine⟨?_,(i2.add O9m O9m qb).mono (?uT),fun l c hl=>?_⟩
   . show LJ n W w lo R B t p f m (f+d+1) μ (?j ?dU p ?b1 _) (?j (?gF).2 ?b1 p _);rw[e,qn2];exact q2
   . show ?j ?dU p ?b1 _ l c=_;rw[C4 hl];exact i3 l c hl
theorem LS[?H][?aZ][?f][?nJ][?nG][?n2][?n5][?nE] :
 ∀d,?eI->g6 n W w i G R B t b p ?d μ ?c0 ?lJ (?gI).2:=by
 intro d
 induction d with
 | zero=>intro _;exact g6.start h
 | succ d ih =>
   intro hd;have i1:=?bB;obtain⟨q1,q2⟩:=i1.step P hG O9m (show ?hG<i by omega) hn hp;have e:?lJ ?c0 (t ?c0)=R ?c0 (t ?c0):=i1.s.same _ _ O9m;show g6 n W w i G R B t b p ?d μ (?hG+1) (?j ?lJ p ?c0 _) (?j (?gI).2 ?c0 p _);rw[e,qn2];exact q2
theorem Qs[?H][?aZ][?f]{b p spot μ β c:Nat}[?nG](inc:?jC)[?n2][?n5][?bQ][?nE](hc:?l2<?q)[?cU] :
 Zc n W w i G R B t b p ?d μ (?qV).1 (?qV).2/\∀d,?eI->?xT (β+i*?P) (?gI):=by
 have r:=LS (W:=W) (w:=w) (B:=B) (b:=b) P h hG hn hp ?aB O9m;rw[show ?mV+?aB=i by omega]at r;refine⟨r.done inc,?lZ⟩;have:=(HE (W:=W) (w:=w) (lo:=i+1) (B:=B) P (?pB) O9m O9m O9m O9m (c:=c) (qb5 (?q4) hc) bb d hd).2.1;refine this.mono ?_;have:=qb4 ?P (?yU d i);omega
universe Lat
namespace Lat
open Hb
variable[?g6]
noncomputable abbrev cS(π i:Nat):Nat:=i+2*π+2
noncomputable abbrev cM(π i:Nat):Nat:=π+2+2*(?v8)
theorem m8{x π:Nat}(h:x<=?A):x<?eU:=by
 have:1<=?A:=qk0;rw[qg4];omega
theorem oB{π i μ:Nat}(h:μ<=?W):?l2<2 ^ ?cF:=by
 have e:2 ^ ?cF=2*(2 ^ i*?W):=by
  rw[show ?cF=1+(i+(2*π+1)) by unfold cS;omega,qd7,qd7,Nat.pow_one]
 rw[e];have a:=qe3 (2 ^ i) h;have b:1<=2 ^ i*?W:=by rw[←qd7];exact qk0
 omega
variable[?H][?cW][?f]{π b spot β:Nat}
theorem Dj.partOf[?bO]{R1:Mat}(e:∀r c,?dY->r<i->?kK=?aK) :
 ?bN R1 t ?r i/\(?jC)/\∀r c,?dY->r<i->G c->?zZ ?kK ?s:=by
 have k:∀r c,?dY->r<i->?kK=?jM:=fun r c h1 h2=>(e r c h1 h2).trans (?aJ r c O9m h2);refine⟨(H.part.sub ?J).congr fun j c h1 h2=>k j c O9m h2,fun l h1 h2=>?d7 ?d l ?J h1 h2,fun r c h1 h2 hc=>?_⟩;rw[k r c h1 h2];exact H.rw r c h2 hc
theorem Dj.meetAdd[?bO][?bQ][?iY]{q:Int}[?xQ][?cU] :
 ?yW ?u5 ?u5 ∧
 ?xT ?eV ?gQ/\?zQ i ?gQ:=by
 have hn:=H.hi
 have hq:?lW:=by
  have a:=h.pv ?d ?h hs;have p:=?a1 ?d hs;rw[he,qb0]at a;exact qa6 (qh7 _ O9m) a
 have b1:?xT (?eS) ?gQ:=bb.add hn O9m (c:=π+1) (by rw[qc2];exact m8 hq);obtain⟨P,inc,hG⟩:=?jO H (R1:=?pD) fun r c h1 h2=>?q0;obtain⟨S,bs⟩:=Qs (n:=n) (W:=W) (w:=w) (G:=G) (B:=(?jB).2) (p:=i) (μ:=?eU) (β:=?eS) (c:=?cF) P inc (h.addPre H hs hq) hG hs hn ?nV (oB ?aH) b1;refine⟨h.metAdd H hs hq hz he ?_,?uS,?yA bs⟩;have e:(?jB).2=?t4:=by show ?j B ?d i (- -q)=_;rw[qn2]
 rw[←e];exact S
theorem Dj.meetBlend[?bO][?bQ][?iY][?n3][?cU] :
 ?yW ?qB ?qB ∧
 ?xT ?eV ?hH/\(?zQ ?d ?hH) ∧
 ?zQ i (?l6):=by
 have hn:=H.hi;have ne:?mK:=O9m
 have b1:?xT (?eS) ?hH:=bb.blend O9m hn ne (c:=π+1) (m8 e.lx) (m8 e.ly) (m8 e.lz) (m8 e.lu);obtain⟨p1,p2⟩:=h.blendPre H hs e;obtain⟨P,inc,hG⟩:=?jO H (R1:=?mN) fun r c h1 h2=>?u0;obtain⟨S1,bs1⟩:=Qs (n:=n) (W:=W) (w:=w) (G:=G) (B:=(?kE).2) (p:=spot) (μ:=?W) (β:=?eS) (c:=?cF) P inc p1 hG hs hn (?aW ?h) ?u9 b1;have b2:=bs1 ?aB O9m;generalize hs2:?l6=s2 at *;have Aw0:?zU ?d (?mN,(?kE).2)=s2:=hs2;rw[Aw0]at S1 b2;obtain⟨P2,Au7,hG2⟩:=?jO H (R1:=s2.1) fun r c h1 h2=>by rw[?fD r c ?c,Dw ?c ?c]
 have p3:∀l,?bD->l<i->(s2.1 i ?m).natAbs<=?W*(s2.1 l ?m).natAbs:=fun l h1 h2=>by
  rw[?fD i _ ?e3,?tE];exact p2 l h1 h2
 obtain⟨S2,bs2⟩:=Qs (n:=n) (W:=W) (w:=w) (G:=G) (R:=s2.1) (B:=s2.2) (p:=i) (μ:=?W) (β:=?eS+?v8) (c:=?cF) P2 Au7 p3 hG2 hs hn ?nV ?u9 b2;exact⟨h.metBlend H hs e hz S1 S2,?uS,?yA bs1,?yA bs2⟩
universe Lat
namespace Lat
open Hb
variable[?g6]
def downS[?v](i:Nat)[?cX]:?vY
 | 0=>s
 | d+1=>?A2 (?dH t i s d) d
theorem Yj[?H][?cW][?f]{Y β:Nat}(I:SK n W w i G R0 B0 t Y R B)(hi:i<n)[?cU] :
 ∀d,?hY->?s0/\?uL ∧
   (d<=i->∀m,m<=d->?w1):=by
 intro d
 have nxt:∀d,d<=i->?s0->?uL →
  ∀m,m<=d->LJ n W w ?i (?bJ).1 (?bJ).2 t ?Q ?cZ ?i (?bG+m) (?iR) (?kW).1 (?kW).2/\?w1:=by
  intro d hd D b m hm;generalize hs:?bJ=s at *;obtain⟨R1,B1⟩:=s;have P:=D.part;rw[?sH]at P D
  have rel:∀l,?bG<=l->l<i+1->(?wD).natAbs<=?iR*(?oH).natAbs:=fun l h1 h2=>by
   have o:?wD=R ?Q ?m:=D.old ?Q ?m O9m;have p:0<?oH:=?uY l h2;rw[o];refine qa6 (I.gc ?Q ?m O9m (I.pg l O9m)) (qh7 _ O9m)
  have run:=HE (n:=n) (W:=W) (w:=w) (lo:=i+1) (R:=R1) (B:=B1) (p:=i-d) (f:=?bG) (m:=i+1) (μ:=?iR) (c:=i+1+Y+1) (β:=?yE d) P rel O9m ?h hi (?aW O9m) (by
   rw[←qd7];exact qh3 ?cN O9m) b m O9m
  refine⟨run.1,run.2.1.mono ?_⟩;rw[qf4 d 1,qf3];have:=qb4 (i+1+Y+2) (show m<=i+1 by omega);have e:m*(i+1+Y+1+1)=m*(i+1+Y+2):=rfl;omega
 induction d with
 | zero =>
   intro _;have D0:N2 n W w i R B t (i+1-0) (?kG).1 (?kG).2:=N2.start I.s0;have b0:?zR 0 ?kG:=bb.mono O9m;exact⟨D0,b0,fun hd m hm=>(nxt 0 hd D0 b0 m hm).2⟩
 | succ d ih =>
   intro hd;obtain⟨D,b,_⟩:=?bB;obtain⟨S,b2⟩:=nxt d O9m D b d ?h
   have D2:N2 n W w i R B t (i+1-?bE) (?v3).1 (?v3).2:=by
    rw[show i+1-?bE=i-d by omega];rw[?sH]at D;rw[show ?bG+d=i+1 by omega]at S;exact D.next O9m S
   exact⟨D2,b2,fun h m hm=>(nxt ?bE h D2 b2 m hm).2⟩
universe Lat
namespace Lat
open Hb
theorem sumN_cut[?S]{j:Nat}:∀{i:Nat},?aQ->(∀k,j<=k->k<i->f k=0)->Ai f i=?h3
 | 0,h,_=>by rw[show j=0 by omega]
 | i+1,h,hz=>by
   by_cases e:j=i+1
   . rw[e]
   . show Ai f i+f i=_;rw[?pI ?c fun k h1 h2=>hz k h1 ?c,hz i ?c ?c];omega
theorem AO[?S]{m h:Nat}:∀{j:Nat},(∀k,k<j->?oQ<=2 ^ k*m*h)->(?h3).natAbs+m*h<=2 ^ j*m*h
 | 0,_=>by show(0:Int).natAbs+m*h<=2 ^ 0*m*h;simp
 | j+1,hf=>by
   have a:=AO (f:=f) (m:=m) (h:=h) (j:=j) fun k hk=>hf k O9m;have b:=hf j O9m;have c:=qf2 (?h3) ?i4;show(?h3+f j).natAbs+m*h<=_;rw[qg4];have e:2 ^ j*2*m*h=2 ^ j*m*h+2 ^ j*m*h:=?w
   omega
theorem V3{a b:Int}{m:Nat}(h:(a+b).natAbs<=m):b.natAbs<=m+a.natAbs:=O9m
theorem qT{x s m M K:Nat}(h1:x<=m+s)(h2:s+M<=K)(h3:m*1<=M):x<=K:=O9m
theorem oG{i:Nat}[?aZ][?f](P:?bN R t 0 i){a m:Nat}(h:?y6 ?iF m):?vQ:=by
 intro j
 induction j using Nat.strongRecOn with
 | _ j ih =>
   intro hj;have pj:=P.pos j ?J hj;have hs:=h j hj;rw[?pI (j:=j+1) ?c fun k h1 h2=>by rw[?kJ k _ ?J h2 (P.inc j k ?J ?c h2)];simp]at hs;have hs':(Ai (?gE) j+?p0).natAbs<=m:=hs
   have b:=AO (f:=?gE) (m:=m) (h:=?cG) (j:=j) fun k hk=>by
    rw[qb0];obtain⟨r1,r2⟩:=P.red k j ?J hk hj;exact qf0 (ih k hk O9m) O9m
   have c:(?p0).natAbs<=2 ^ j*m*?cG:=by
    exact qT (V3 hs') b (?mO)
   rw[qb0]at c;exact qq3 c O9m
theorem Dq.backs[?H]{M B0 R B:Mat}[?f][?cS](hi:i<=n){a m:Nat}(hb:∀k,i<=k->B k a=if k=a then 1 else 0)(hM:?y6 ?lX m)(hM2:?y6 ?i5 m)(ha:i<=a->a<n->∀j,j<i->?lX=?i5):?vQ:=by
 refine oG ?kP ?V;have e:?rI=?lX:=h.good.pt a ?p
 have s:?rI=?iF+(if ?t8 then ?i5 else 0):=by
  have:∀d,i+d<=n->?v5=?iF+(if ?sY then ?i5 else 0):=by
   intro d
   induction d with
   | zero=>intro _;ext aX;show Ai _ i=_;omega
   | succ d ih =>
     intro hd;show ?v5+B ?eH a*R ?eH ?p=_;rw[?f7,hb ?eH ?c,?mH ?eH _ ?c];by_cases z:i+d=a
     . subst z;rw[?o,?k,?G];omega
     . rw[?a0];by_cases y:?sY
       . ext iX;omega
       . ext iW;omega
  have:=?K (n-i) O9m;rw[show i+(n-i)=n by omega]at this;ext aA
 by_cases z:?t8
 . rw[?aD,e,ha z.1 z.2 j hj]at s;have:?iF=0:=O9m
   rw[this];exact ?bF
 . rw[?a0,qn4]at s;rw[←s,e];exact hM j hj
theorem lR[?f]{n w:Nat}(inc:∀j k,j<k->k<n->?jD):?tH:=by
 have:?oA:=by
  intro m
  induction m with
  | zero=>ext xC
  | succ m ih =>
    ext xF
    . have hrm:r=m:=by
       ext xJ;have:=inc r m y O9m;omega
      exact⟨m+1,?bV,fun j hj=>by
       by_cases q:j=m
       . rw[q];exact z
       . exact b j O9m,?mI⟩
    . exact⟨r,O9m,b,fun j h1 h2=>by
       by_cases q:j=m
       . rw[q];omega
       . exact ?wR⟩
 exact ?t6
theorem Dq.first{n W w D:Nat}[?a9][?f](hD:N3 n G M D)(h:?qH) :
 ∃r,?dM/\?nS/\(∀i c,?aI->i<n->?sV)/\P4 n W w r t (fun j=>?C) R/\?g (fun j=>?C) r<=D/\∀j,j<n->?C<=D:=by
 obtain⟨r,hr,h1,h2⟩:=lR (w:=w) ?fO;have pos:∀k,k<n->0<(fun j=>?C) k:=fun k hk=>?fE k hk;refine⟨r,hr,?uZ,?u6,⟨fun j c _ a b=>?hW j c a b,fun j k _ a b=>?fO j k a b,h2,fun j _ a=>?d8 j a,fun j _ _=>rfl,fun j _ a=>?fE j a,fun k j _ a b=>?iN k j a b⟩,?_,?V⟩
 . have a:=Xc (n:=n) pos r hr;have b:=?kO hD ?h (s:=t) h.pg;rw[y4 ?kB]at b;have c:=Cw (n:=n) pos;omega
 . have:=h.headD hD ?h hj;have:=?qF;omega
variable[?g6]
theorem addS_zero(p q:Nat)[?cX]:?c7 p q (-0) s=s:=by
 unfold addS;rw[?tR,?tR,aF,aF]
theorem CM[?f]{p f:Nat}[?jA]:∀m,(∀j,?dD->j<f+m->s.1 p ?p / ?mG=0)->?hV=s
 | 0,_=>rfl
 | m+1,h=>by
   have ih:=CM (t:=t) (p:=p) (f:=f) (s:=s) m fun j h1 h2=>h j h1 O9m;show ?c7 p ?eN (-((?hV).1 p (t ?eN) / (?hV).1 ?eN (t ?eN))) (?hV)=s;rw[ih,h ?eN ?c ?c,addS_zero]
structure xR(i:Nat)[?v](R:Mat):Prop where
 inc:∀j,j<i->t j<t i
 zero:∀x,x<t i->?eD=0
 pos:∀j,?aQ->0<?C
 red:∀k j,k<j->j<i->?uB
def Kb(R:Mat)[?v](i k:Nat):Int:=R k ?aN / R i ?aN
structure Nk(n i β c:Nat)[?v][?E](d:Nat)[?cX]:Prop where
 rows:∀r x,s.1 r x=if ?k9 then ?f9+-(?iC)*?eD else ?f9
 old:∀r x,r≠i->s.2 r x=B r x
 back:∀x,x<n->(s.2 i x).natAbs<=?eY*?bE
theorem Nk.step{n i β c:Nat}[?f][?aZ]{d:Nat}[?jA](L:?vB)(bb:?aM n n β B)[?n6](hd:d<i+1)(h:?oP) :
 ?yJ ?bE (?A2 s d)/\?tA:=by
 have own:∀x,s.1 ?Q x=R ?Q x:=?qP
 have ri:∀x,s.1 i x=?eD:=?qP
 have hdj:∀j,?aQ->?mG=?C:=fun j hj=>by
  rw[h.rows];by_cases z:?hZ<=j/\j<i
  . rw[?aD,L.zero ?p (L.inc j z.2)];simp
  . rw[?a0]
 have zq:∀m,m<d->∀j,?bG<=j->j<?bG+m->s.1 ?Q ?p / ?mG=0:=fun m hm j h1 h2=>by
  rw[own,hdj j ?c];obtain⟨a,b⟩:=L.red ?Q j O9m O9m;exact Int.ediv_eq_zero_of_lt a b
 have zs:?tA:=fun m hm=>CM m (zq m hm);refine⟨?_,zs⟩;by_cases d0:d=0
 . subst d0;show ?yJ 1 s;refine⟨?mX,?aJ,fun x hx=>qa6 (?m5) (?mO)⟩;rw[h.rows,?k,?k]
 . obtain⟨e,rfl⟩:∃e,d=e+1:=⟨d-1,O9m⟩
   have last:?y t ?aT (i-(e+1)+1) s (e+1)=?c7 ?aT i (-(?hT)) s:=by
    show ?c7 _ (i-(e+1)+1+e) _ (?y t ?aT (i-(e+1)+1) s e)=_;rw[zs e ?c,show i-(e+1)+1+e=i by omega,own,hdj i ?h];rfl
   rw[last];refine⟨?mX,fun r x hr=>?_,?pA⟩
   . show ?j s.1 ?aT i _ r x=_;by_cases z:r=i-(e+1)
     . subst z;rw[Cg,own,ri,?G,qd0]
     . rw[C4 z,h.rows];by_cases y:i+1-(e+1)<=r/\r<i
       . ext iX
       . ext iW
   . show ?j s.2 i ?aT _ r x=_;rw[C4 hr];exact ?aJ r x hr
   . show(?j s.2 i ?aT (- -(?hT)) i x).natAbs<=_;rw[Cg,qd0,qn2,?aJ ?aT x ?c];have a:=?m5;have b:=qf2 (s.2 i x) (?hT*B ?aT x);rw[qb0]at b;have m:(?hT).natAbs*(B ?aT x).natAbs<=?q*?fG:=qf0 (qd4 (hq _ O9m)) (qd4 (bb _ _ O9m hx));rw[←qd7,?pK]at m;rw[Nat.mul_add _ (e+1+1) 1,Nat.mul_one];omega
theorem nC{n W i β c:Nat}[?f][?aZ](L:?vB)[?cU][?n6] :
 ∀d,?hY->?yJ d (?bJ):=by
 intro d
 induction d with
 | zero =>
   intro _;refine⟨?mX,?d4,?pA⟩
   . ext aX;rfl
   . show ?w8<=_;have a:?w8<?fG:=?iL i x hi hx;have p:?oX:=?aG;omega
 | succ d ih =>
   intro hd;exact((?bB).step L ?iL hq hi O9m).1
theorem Nk.bits{n W i β c:Nat}[?f][?aZ]{d:Nat}[?jA][?cU][?n6](hd:?hY)(h:?oP):?xT (β+(c+i+3)) s:=by
 refine⟨?jN,?jN,?jN⟩
 . rw[h.rows];by_cases z:?k9
   . rw[?aD];have e:=qf2 (?f9) (-(?iC)*?eD);rw[qb0,qc2]at e;have a:=?tJ;have b:=bb.1 i x hi hx;have m:(?iC).natAbs*(?eD).natAbs<=?q*?fG:=qf0 (qd4 (hq r z.2)) (qd4 b);rw[←qd7,?pK]at m;have p:?oX:=?aG
     have q:4*?eY<=2 ^ (β+(c+i+3)):=by
      have e4:4*?eY=2 ^ (2+?lT):=by rw[qd7 2 2 ?lT]
      rw[e4];exact ?aG
     have a':?r8<?fG:=a;omega
   . rw[?a0];exact qb3 (?tJ) ?aH
 . by_cases z:r=i
   . subst z;have a:=?m5
     have l:d+1<2 ^ (r+2):=by
      have:=qp7 (n:=r+2);omega
     refine qb5 a ?_;have e4:2 ^ (β+(c+r+3))=?eY*2 ^ (r+3):=by rw[←qd7];congr 1;omega
     rw[e4];refine qq2 ?_ qk0;exact qb3 l ?aH
   . rw[?aJ r x z];exact qb3 (?iL r x hr hx) ?aH
 . rw[h.rows];by_cases z:?k9
   . rw[?aD];have:=Pt (a:=1) (k:=-(?iC)) (c:=c) (bb.2.2 r x hr hx) (bb.2.2 i x hi hx) (show 1<=?q from qk0) (by rw[qc2];exact qd4 (hq r z.2));rw[qd0]at this;exact qb3 ?K ?aH
   . rw[?a0];exact qb3 (bb.2.2 r x hr hx) ?aH
universe Lat
namespace Lat
open Hb
variable[?g6]
theorem fdiv_small{x h:Int}{c:Nat}(hh:0<h)(hx:?t0):?nY<?q:=by
 have:=IF (x:=x) (h:=h) (K:=x.natAbs) hh (qh7 _ O9m);omega
theorem Dq.putB{n W w i β:Nat}[?a9][?f][?cS](hi:i<n)[?j3](bb:?zO β R):Je n W w i G R B t β β :=
 ⟨hi,?kP,?d8,fun j hj=>qd4 (bb j _ O9m (?d8 j hj)),fun r c hr hc=>qd4 (bb r c O9m (tX c hc)),fun c hc=>qd4 (bb i c hi (tX c hc)),fun l hl=>qd4 (bb i _ hi (?d8 l hl))⟩
theorem Cc.last{n W w r i β c:Nat}[?a9][?cR][?fZ](hn:i<n)[?j3](hG:G ?bK)[?cU](hc:∀k,k<i->(R k ?bK).natAbs<?q) :
 Cc n W w r ?i G M B0 kt hd ?a4 (?sE).1 (?sE).2 ∧
 (∀d,?hY->Nk n i β c ?a4 R B d (?iB)/\?xT (β+(c+i+3)) (?iB)) ∧
 (∀d,d<i+1->∀m,m<d->?y ?a4 ?Q ?cZ (?iB) m=?iB):=by
 have H:=h.st.putB hn tX bb.1;obtain⟨I,_⟩:=h.ins K hi H hG;have D:=(Yj I hn bb ?i ?h).1;rw[qj0]at D;ext x7;ext mZ
 have L:xR i ?a4 R:=⟨fun j hj=>I.s0.inc j i hj O9m,fun x hx=>I.s0.zero i x O9m hx,?yP I.s0.pos,fun k j h1 h2=>by rw[t1 j h2];exact ?r0 k j h1 h2⟩
 have hq:∀k,k<i->?oY<?q:=fun k hk=>?qE (L.pos i ?h) (by rw[t2];exact hc k hk);have run:=nC L bb hq hn;exact⟨h.nextK K hi hn I D,fun d hd=>⟨?rG,(?rG).bits bb hq hn hd⟩,fun d hd=>((run d O9m).step L ?iL hq hn hd).2⟩
def AG(n r i:Nat)(kt:?x)(c:Nat)(R:Mat):Prop:=∀k j,k<i->i<=j->j<n->(R k ?bS).natAbs<?q
theorem Cc.above{n W w r i β c η:Nat}[?a9][?cR][?jA][?fZ](hn:i<n)(hη:∀j,?a6->j<n->(hd j).natAbs<=?l7)(a:AG n r i kt c R)(l:Nk n i β c ?a4 R B ?i s):AG n r ?i kt (c+η+1) s.1:=fun k j h1 h2 h3=>by
 ext mZ
 have mi:(R i ?bS).natAbs<?l7:=by
  ext nB;obtain⟨m1,m2⟩:=K.red i j O9m O9m h3;have:=hη j O9m h3;omega
 have p1:?l7<=?uH:=?aG;have p2:?q<=?uH:=?aG;rw[l.rows,qg4];by_cases z:i+1-?i<=k/\k<i
 . rw[?aD];have e:=qf2 (R k ?bS) (-(?wM)*R i ?bS);rw[qb0,qc2]at e
   have q:?oY<=?q:=by
    unfold Kb;rw[t2];have p:0<R i ?bK:=by rw[?rV,?rQ];exact K.pos i hi hn
    exact qd4 (?qE p (a k i z.2 ?h hn))
   have m:=qf0 q (qd4 mi);rw[←qd7]at m;have b:=a k j z.2 O9m h3;omega
 . rw[?a0];have:k=i:=O9m
   subst this;omega
universe Lat
namespace Lat
open Hb
def put2[?aY](i j:Nat)(x y:Int):?l:=fun k=>if k=i then x else if k=j then y else f k
theorem Q7[?aY](i j:Nat)(x y:Int):?bW f i j x y i=x:=?o
theorem Q6{i j:Nat}[?aY](h:?fT)(x y:Int):?bW f i j x y j=y:=by unfold put2;rw[?y0 h,?o]
theorem Ji{i j k:Nat}[?aY](h1:k≠i)(h2:k≠j)(x y:Int):?bW f i j x y k=f k:=by unfold put2;rw[?e h1,?e h2]
structure Ah5(o t g r:Int):Prop where
 go:g∣o
 gt:g∣t
 tr:t∣r
 pr:g*r=o*t
 all:∀d:Int,d∣o->d∣t->d∣g
theorem Shares.pair{A B g a b:Int}(h:?r4):Ah5 A B g (?f1*B):=by
 obtain⟨p,eA⟩:=h.dA;have g0:g≠0:=?jK
 have k1:?f1=p:=?lO
 refine⟨h.dA,h.dB,⟨?f1,?kF⟩,?_,fun d h1 h2=>?_⟩
 . rw[k1,←qe1,←eA]
 . rw[h.e];exact ?nM (qr7 h1) (qr7 h2)
def ChainTo(m i:Nat)[?aY]:Prop:=∀a b,a<i->a<b->b<m->f a∣f b
def ChainAt(m i j:Nat)[?aY]:Prop:=?q9/\∀b,i<b->b<j->f i∣f b
theorem ChainAt.step{m i j:Nat}[?S]{g r:Int}(h:?rU)(hij:i<j)(hj:j<m)(p:Ah5 (f i) ?i4 g r):?fN m i ?I (?bW f i j g r):=by
 have ne:?fT:=O9m
 refine⟨fun a b ha hab hb=>?_,fun b hb hbj=>?_⟩
 . rw[Ji f (?xU a i) (?xU a j)];have d1:=h.1 a i ha ha O9m;have d2:=h.1 a j ha O9m hj;by_cases e1:b=i
   . rw[e1,Q7];exact p.all _ d1 d2
   . by_cases e2:b=j
     . rw[e2,?dI];exact qv4 d2 p.tr
     . rw[Ji f e1 e2];exact h.1 a b ha hab hb
 . rw[Q7];by_cases e2:b=j
   . rw[e2,?dI];exact qv4 p.gt p.tr
   . rw[Ji f ?c e2];exact qv4 p.go (?o2)
theorem ChainAt.skip{m i j:Nat}[?S](h:?rU)(d:f i∣f j):?fN m i ?I f:=⟨h.1,fun b hb hbj=>by
 by_cases e:b=j
 . rw[e];exact d
 . exact ?o2⟩
theorem ChainTo.at{m i:Nat}[?S](h:?q9):?fN m i ?i f:=⟨h,fun b h1 h2=>O9m⟩
theorem ChainAt.next{m i:Nat}[?S](h:?fN m i m f):ChainTo m ?i f:=fun a b ha hab hb=>by
 by_cases e:a=i
 . rw[e]at hab ⊢;exact h.2 b hab hb
 . exact h.1 a b O9m hab hb
theorem Tu{f f':?l}{i:Nat}:∀{m:Nat},i<m->(∀k,k<m->k≠i->f' k=f k)->?hN*f i=?aV*f' i
 | m+1,hi,h=>by
   show ?hN*f' m*f i=?aV*f m*f' i;by_cases e:i=m
   . subst e
     have:?g f' i=?g f i:=by
      have:∀l,l<=i->?pS=?g f l:=by
       intro l
       induction l with
       | zero=>intro _;rfl
       | succ l ih=>intro hl;show ?pS*f' l=?g f l*f l;rw[?f7,h l ?c ?c]
      exact ?K i ?h
     rw[this]
     grind
   . have ih:=Tu (f:=f) (f':=f') (i:=i) (m:=m) O9m ?dG;rw[h m ?c (fun z=>e ?b4)];have:?hN*f m*f i=?hN*f i*f m:=?w
     rw[this,ih]
     grind
theorem JJ[?S]{i j m:Nat}{x y:Int}(hij:i<j)(hj:j<m)(h0:f i≠0)(hj0:f j≠0)(e:x*y=f i*f j):?gU=?aV:=by
 have ne:?fT:=O9m
 have a:=Tu (f:=f) (f':=?jF) (i:=i) (m:=m) O9m fun k hk hne=>by
  by_cases z:k=j
  . rw[z,?dI]
  . exact Ji f hne z ..
 have b:=Tu (f:=?jF) (f':=?oU) (i:=j) (m:=m) hj fun k hk hne=>by
  by_cases z:k=i
  . rw[z,Q7,Q7]
  . rw[?vS,?vS]
 rw[Q7]at a;rw[?dI,?dI]at b
 have c:?gU*(f j*f i)=?aV*(f j*f i):=by
  have:?gU*(f j*f i)=(?gU*f j)*f i:=?w
  rw[this,b];have:?p1*y*f i=(?p1*f i)*y:=?w
  rw[this,a];have:?aV*x*y=?aV*(x*y):=?w
  rw[this,e]
  grind
 exact Int.eq_of_mul_eq_mul_right (Int.mul_ne_zero hj0 h0) c
structure Bil(β:?sG):Prop where
 l:∀u v y a b,β (?i0) y=a*β u y+b*β v y
 r:∀x u v a b,β x (?i0)=a*β x u+b*β x v
theorem aL{β:?sG}(hb:Bil β){P Q:Mat}[?S]{i j n w:Nat}(ne:?fT)(hin:i<n)(hjn:j<n)(hiw:i<w)(yH:j<w)(h:∀x y,x<n->y<w->β (P x) (Q y)=if x=y then f x else 0){g a b:Int}(S:?h0 (f i) ?i4 g a b) :
 ∀x y,x<n->y<w->β (?j ?iA j i (-(?q3)) x) (?t Q i j a b (-(f j / g)) (?lG) y)=if x=y then ?bW f i j g (?lG*f j) x else 0:=by
 obtain⟨p,eA⟩:=S.dA;obtain⟨q,eB⟩:=S.dB;have g0:g≠0:=by have:=S.pos;omega
 have k1:?lG=p:=?lO
 have k2:f j / g=q:=?sD
 have k3:?q3=b*q:=by rw[eB,show b*(g*q)=g*(b*q) by grind];ext eC
 have e0:=S.e;have ne':j≠i:=?mD;rw[k1,k2,k3];have pi:?zM i=?sT:=by rw[?cA ne,Mf]
 have pj:?zM j=fun c=>1*P j c+?iK*(?sT) c:=by
  rw[Mf,?cA ne',Mf]
 have po:∀x,x≠i->x≠j->?zM x=P x:=fun x h1 h2=>by rw[?cA h2,?cA h1]
 have ii:=h i i hin hiw;have ij:=h i j hin yH;have ji:=h j i hjn hiw;have jj:=h j j hjn yH;rw[?o]at ii jj;rw[?fL]at ij;rw[?e ne']at ji;intro x y hx hy;by_cases y1:y=i
 . subst y1;rw[?eK];by_cases x1:x=y
   . subst x1;rw[?o,Q7,pi,hb.l,hb.r,hb.r,ii,ij,ji,jj]
     grind
   . rw[?jW];by_cases x2:x=j
     . subst x2;rw[pj,hb.l,hb.l,hb.r,hb.r,ii,ij,ji,jj];have:1*(a*0+?fY)+-(b*q)*(1*(a*f y+b*0)+1*(a*0+?fY))=?fY-b*q*(a*f y+?fY):=?w
       rw[this,←e0];have:?fY=b*(g*q):=by rw[←eB]
       rw[this]
       grind
     . rw[?jS,hb.r,?eF,h x j hx yH,?jW,?mF];simp
 . by_cases y2:y=j
   . subst y2;rw[blend_row_q];by_cases x1:x=i
     . subst x1;rw[?fL,pi,hb.l,hb.r,hb.r,ii,ij,ji,jj];have:1*(-q*f x+p*0)+1*(-q*0+p*f y)=p*f y-q*f x:=?w
       rw[this,eA,eB]
       grind
     . by_cases x2:x=y
       . subst x2;rw[?o,?dI,pj,hb.l,hb.l,hb.r,hb.r,ii,ij,ji,jj];have:1*(-q*0+p*f x)+-(b*q)*(1*(-q*f i+p*0)+1*(-q*0+p*f x))=p*f x-b*q*(?uA):=?w
         rw[this];have:?uA=0:=by rw[eA,eB];grind
         rw[this];omega
       . rw[?mF,?jS,hb.r,h x i hx hiw,?eF,?jW,?mF];simp
   . rw[?kM y1 y2];by_cases x1:x=i
     . subst x1;rw[?lI,pi,hb.l,?eF,h j y hjn hy,?lI,?mY];simp
     . by_cases x2:x=j
       . subst x2;rw[?mY,pj,hb.l,hb.l,?eF,h i y hin hy,?mY,?lI];simp
       . rw[?jS,?eF];by_cases e:x=y
         . rw[?fV,?fV,Ji f x1 x2]
         . rw[?eP,?eP]
end
mutual
#check(4,[?a,?b,some,spot,(?kK),.ref,Nat->Nat,Nat->Int,beside,if_neg,(w+n),(?b0),.int,min n w,if_pos,(i+1),(n+1),Lat.Mat × Lat.Mat,Bits,?o rfl,.inl,?j ?e,.lst,Mat × Mat,?n*?b6,(w+a),.(by intro z;cases z),sumN_one,(?i w T P),2 ^ π,2 ^ b,(?mE),none,∀(n w:Nat),a,qa8 _,?o z,mulV,.inr,∀(s:?r),a,Q .non H',?f p,(k+i),decide,(k+1),wpAny,?j z,(by ext A),.ins,this,sumN_all0,∀(f:?h),a,.(by exact ?b0),?c o,s.heap.objs.size,π+1,∀(K:W.Frag)(CL CS CW:Addr),a,∀(x:?uR),a,∀(t:?g),a,.(by rw[Bq];omega),(insT t ?d st),dets,.(by grind),List,z.symm,r<=j,Same H H',∀{n w:Nat},a,(kt j),wk.e0,(d+1),cK ms,fs.lookup,f i / g,(H0:Hp),(n+w),(?f e),Dz π b r,R j ?b3,(η+1),BB.bo,Int × Int,spot<=i,Nat->?h,∀{t:?g},a,∀(K:W.Frag),a,∀(n W:Nat),a,∀(hi:i<n),a,fun x a=>R x ?z,qa1 _,?o h1,moveR,(t j),Option.none,(k+j),(π+2),x.ne,IsEnum,absurd,h.pos,(r+1),2 ^ β,(2*n+π+2),.none,((n:Int)+1),?j h1,(?v3),ih O9m,(fun c=>c<w),k<=j,(hd j).natAbs,B a c,T k c,(Q c),?j h2,η+1+?aO,ms.map,beside_lo,r<=n,c<w+n,(?k1),(tr R),Addr->Prop,(p j),x.sm,β2+(?y-m)*?c2,insS i ?d st ?gJ,(2*w+π+2),Nat->Prop,(r x),(p r),(n W:Nat),?bS hc,(n w:Nat),Lat.shrS,Heap.SameBut,(s:?r),V.int,x.2.2,s l-w,(by ext a6),R l c,putI ms k v,G i a,insAt,cM π i,(j+1),insS i ?d st s',p.dπ,?o h2,st.inc,?j q,Rep.same,x.nu,?aA Int,?aA Addr,prodN,∀(_K:W.Frag)(CL CS CW:Addr),a,∀{kt:?g}{hd:?h},a,∀(l r:?r),a,∀{ms:Ms}(h:nd ms),a,∀{f:?h},a,(?n),?z1 η n,s.1 i (?dI),β+(?y-m)*?bD,(T i c).natAbs,Lat.addS,x.2.1,(?hE),2 ^ π2,(Ne.symm ne),(lf j hj),st.zero,?r->Prop,(fun _=>False),?xS (fun k=>?pQ),(?oG),β+?aO,t ?d,if ?g1 then x k*?bN else 0,K.zero,fun x a=>S x (n+a),fun y x=>M x (s y),(lf i O9m),(?iP,Lat.one),.type "tuple",st.red,s.heap.objs.size+1,Option,downS,fun _ _=>rfl,π<=8990,h.zero,wk.going,?aA V,as.map V.ref,?yG k c,(s l),(?bQ),(fun c=>?bU),(w+c),(m+1),(?I),x c*T c c,?aA α,(?aP).natAbs,jK (?m0) n,(?sN),st.lt,?o q,(qe6 _ _),(w-k),(gT m G B),fun z=>?_,s.1 i c,(f i),G a c,Dz π b i,β+?fK,(tr A),(?dM),?o ?e,(t k),∀{K:W.Frag}{CL CW:Addr},a,∀{C:?c3}{δ:Nat},a,∀(g:?jJ),a,∀{s:?x},a,∀{G:?c3},a,(?l8),(p q:Addr),(?sD),lx.nr,h.told,fun k=>x k*?bN,(fun k=>?hD),M i i,qg7 ?cF,D<=?D,(M:Lat.Mat),spot*?cK,∀j,j<i->t j<w+n,?yQ ?h0,?L h,Cz ms k,PB k a,(r+d),h.diag,?h1->st<?dI,st.pos,Hl ms k,E9 f n,b0<=π,Fr π b i,fun x=>M x (s 0),2 ^ n,SameX,lx.nb,Ch ?e,p.π9,(c-w),Lm n l,(?tL),if k=j then 1 else 0,h.red,(?lF),p.1=k,?pP n w M,Nat->(?h)->?qF,2 ^ ?q,c+1<=k/\k<r,y k i,(i-r),(l r:?r),fun _=>0,R k c,(?lE),(?o3 t ?d st),insT t ?d ?fW j,2 ^ η,turnL z PB L j c,(?d3),(?c (w:Int)),Gn ?W,(tr S),Q ?P c,π<=b,?K w ?eG (Q i) b,(R,B),(v:V),bs[i]?,(?m3).2.2,?u h,zt1 ?lC t,Ut r b H H',(i<n),K.head,(?y),v ?eQ,(k,v),hp.objs.size,?fG j hj,(kB n+6),(vs=[?O]),(W<=1000),(n-r),spot<i,nz ms,if i=j then 1 else 0,V r l,Lat.Shares,(?i w A one),2 ^ i,?fM*e.natAbs,Ai (fun k=>x k*U k c) m,?b2 R i ?d ?d st<0,?j ne,(?L (?u z)),(x k).natAbs,.(by simp),?dS Lat.Mat,(M:?bX),fun k hk=>?_,(n<=1000),wk.kl,Ai (fun c=>?eK*?gB) m,dg.pos,(p L R nm:Addr),?m i,(kB n),h.inc,(fun a=>a=nm\/a=r2\/a=b2),K.inc,K.red,moveS,fun i hi=>?_,(z▸hN),Kp H H',IntMulOk,i≠j,(t:?g),?o e,H D=none,(?L (?L z)),one j c,this.table,qh3 ?bH O9m,∀{C p r b:Addr}{sv:?dS V}{n W:Nat}{s:?r},a,∀{ns:?cT}(x:?p9),a,∀(hp:?x4 C fs)(sx:?kF),a,∀(K:?oX),a,∀{p C dx:Addr}{fs:?aA (Str × V)},a,∀{A P PB Q QB:Mat}{f:?h},a,∀{kt t:?g}{hd:?h},a,∀(x:?l0),a,.(by have p:=?xT K.pos),.(by rw[?v]),∀(he:?lS),a,∀{ms:Ms}{k v:Int},a,∀{N:?bX},a,∀(s:?aD),a,BO n W s,?h5 ?eJ (f j) g a b,funext,fun k=>B k a*R k ?b3,⟨k1,g,d,tk,os⟩,Lat.one,(i-d+1),Hi W ?rL st,beside_hi,(?nI+1),A a b*q b,c<=k/\k<r,?K w ?eG v i,2 ^ b2,⟨_,rfl,q2⟩,U m M' l' r',L j ?c5,qe1 ..,fun j c h1 h2 h3=>?_,∀j c,?bK->j<w->c<w->(r.1 j c).natAbs<=?iX,qh7 _ O9m,(?x9 e),s _ _ e,?xT ?gR,Cz ms j,w6.extBut,fun j hj=>?_,sumN_cut,(i-?F),Array Value,?fI+f n,a∈as,Same H H1,?tT b=?a0->h'.get? b=?a0,E9 g n,E7 n w r E e T,x.same _ _ e,qe5 ?bH O9m,2 ^ ?h0,?z0 H' f,bJ n*?fM,qf9 ..,2 ^ b0,PB j b,b2 a ha,Value->?rI,(L r ?c5).natAbs,2 ^ d*?iT,(N:?bX),2 ^ d*e.natAbs,qa3.mp,P' x a,Lat.Mat->?qF,β-?aQ,(P,PB),(?c M),s.1 j (?g9),?xT h.ge,List.range,"enumerate",Lat.blendS,H a=none,?xS (fun k=>?g2*?fC),β+i*?cK,g.sq.row0,(?c1).1,x.same.trans,?fN p H H',?dT ?a7 i (?cM) ?p,qb7 _ rfl,x m*U m c,U m M l r,.(by omega),f i∣f j,K2.st.good,Ai (fun c=>turnL z P G i c*?gB) m,fun x=>M x (s y0),.(fun M' e=>by cases e),?hT i ?d x,Ai (fun k=>x k*?wV (U k) q) m,bb.mono,Ai (fun k=>x k*?yG k ?aF) j,.type ?k7,fun j h1 h2=>?_,?m (w:Int),n+b0<β,w7.extBut,?x8 v y,?yA H N,?xS (fun c=>Ai (fun l=>(RB l a-?dF)*R l ?e4) n*RB i c),(sv:?dS V),bJ i*(?E) ^ i,I ?d s',Dg ms k,kP ?gX ?d1,i*D<=?E,U9 n r kt,?xG p,jK B n,Lat.beside,s.heap,Td k w Q p,s.1 ?d (?dI),kt ?d,Ai (fun a=>v a*?t4) w,?K w B (Q i) a,if a=b then 1 else 0,h k c hk hc,fun x=>M x x,j<=spot,?xS (fun k=>?fC*?e0),w5.extBut,HT.sIx,?x9 ne,Lat.downS,η+1<=β,e.natAbs<=?D,I ?d s,E9 ?f2 j,Same H0 H,(R k ?eQ).natAbs,(?c1).2,BY n w i j f l r,Lm w r,fun r=>B ?bB,lI i M,rawInt,a2 a ha,fun y a=>R y ?z,(i:Nat),?eM<=big,Hp->Prop,{ cls:=?kU,data:=.fields #[?bE,.bool false,?f ?a1,?m2 0,?bE,?bE] },5*k+k*k,x.keep,S j (u j),C8 m z L p,IsEnumOut,spot+1,(Ze▸hi),s.eqv n ?l,∀(st:?mC)(hB:?oI)(b2:∀q c,q<m->c<w->(B q c).natAbs<=2),a,.(by obtain⟨dx,fs,h1,h2⟩:=x.ob;obtain⟨as,a1,a2⟩:=x.rw;obtain⟨bs,b1,b2⟩:=x.bk),∀(ge:?yB ?lC n)(gj:s.heap.IsTupleIter j t n)(gt:?pV),a,∀(h:?uV)(tw:∀c,c<w->?xU (fun a=>?bM)),a,∀{p L R nm:Addr}{n w:Nat}{M:?hF}{l r:?r},a,.(by obtain⟨tv,dx,fs,hp,l1,l2,l3,l4,l5,l6,l7,_⟩:=x.ob),.(by wp_walk using wpAny_loadPart' q1,qm3 gt),.(by rw[←Ay];exact Ag fun c _=>?j1),∀{e j t:Addr}{n:Nat}{vs:?jD},a,∀{x:?x}(h:?wS β x),a,∀(x:?nW),a,∀(spot i:Nat)(A B g a b:Int),a,.(by exact ?i5),∀(tp nm r1 D1 D2 b2:Addr),a,Nat->(?g)->?dD,(Ta _ n),?b2 R i ?d,det k (Fz (?sB) i),det n (Fz (Vu A ?cL) i),β2+Fr π2 b2 i<=big,fun r l=>?i w T one r ?e1,?xS (fun x=>PB x b*?pC),b1.same e,(?sD).length<=ms.length+ns.length,(b4 a ha).2.2,(p dx:Addr),(?dZ).set,Gg n w k D A l.1 l.2 r.1 r.2 f,∀i,i<n->?m6,Cc.start _ _ _ _ _ _ _ _ _ _,Good n ?k w n ?C PB R RB,?yZ m3,?y8 as c,B.natAbs<L9,fun a ha=>?_,.(by rw[HT.sIx_nat];omega),fun y a=>u1.1 y ?z,2 ^ r*e.natAbs,i.natAbs<L9,?r4 n w T,Sq H ?dG a,(tab j z),hT i c hi h,Q (?f D) H',?wV (P y) v,(β+?bD),fun j c _=>?dC j c,B j a*?aP,aY ms p.1 p.2,⟨fun i t s hi hJ=>?_⟩,?cV f ?e5,?wU cnt s,.(by simp[Gj]),H b'=none,jK (fun r=>?jU) i,F.entry_enumerate_next,Py c η r e,Q (?f tp) H',Lat.insT,w2.extBut,A.natAbs<L9,Q (?f L) H',n*D<=?E,(VI k f),?wV p q,Py c η r d,AG n r i kt (?p1) s.1/\BB n ?k ?eW ?bV (?dH+?q1) s/\?u0,fun x hx=>?_,(Kk ?hH),.(by rw[qg4];grind),?yG i c,fun a=>a=nm,hs9 j O9m,∀q c,q<m->c<w->B q c=Ai (fun i=>L i q*T i c) z,sJ n w A D,X.calm=true,(one i j).natAbs,Rd H a (.dK (?aI)),.seq vs n,Fb n w (?i w R ?aZ) RB,?yJ h h,tr R x c,(?x9 hj),?z7 T (P x),?dH+?r9+(?yL spot+3),(Ze▸hj),BB n ?k ?eW ?bV (β+?eL) s,?aJ m=none,?xE ?k ?C,(h a z).elim,UF n w D π β π2 β2 b2 A m M l r,?bL<=?gA,?bQ+?g3*?aQ,?wS (?kB) (?c1),{ s with heap:=h',toks:=s.toks+1 },hh d ?e j ?e,π2<=8990,Classical.choose_spec,((?m4) c),?xK H ?G,?wR H M,gT m G B a c,Ai (fun j=>?uP*det n (Vu A j)) ?q,?xS (fun a=>P x a*u a),fun y x=>M x (?wT 0),Ai (fun b=>P y b*(?gI-f i*PB i b)) z,(as.set i D1).set j D2,?xS (fun j=>g ?cL),Zf K H H' tp nm r1 D1 D2 b2 n w k f l r,hM a _ ha (?tF),?mD h' e j ?bF x ?a1,h i j hi hj,⟨⟨_,h⟩,this.1,this.2.1⟩,Ai (fun a=>?cI*?bM) m,{ s with heap:=h' },?hT i ?d ?gJ,Lat.Straight,y k l*?fC,?cJ k y xs,?aA Bool,⟨dx,fs,e _ _ h1,h2⟩,H r'=none,s.heap.IsTuple t vs,?xE ?k R,vs[n]?=?c x,?xE W M,.(by rw[Ay]),?wS β s,?yQ ?g3,e' j _ ?e ?eB,xs.map g,Fb n w ?C PB,setField,Lat.ChainTo,s _ _ ?cS,∃x y,x<k/\y<k/\x≠y/\r x=r y,fun r c _ z=>z.elim,its.toArray.size,?y3 D D2,qb4 _ (Nat.sub_le _ _),?lQ t i s d,Lat.Bits,?r->?dD,?xJ i 0,?y-(m-1),ms.length<=1000000,K1.st.good,h'.objs.size=?dR,?xS (fun k=>?dJ),Nat->(?g)->?x->Prop,.(by decide +kernel),qb4 _ O9m,?yA H' N,QB ?P c,h.mono hb,k2 ?F ?l,IM n w A,?i w T one j ?e1,blend_row_ne O9m O9m _ _ _ _,(?jY hi).1,?zC ?cG,E9 ?f2 ?fD,gT m G B b c,?g0*e.natAbs,Nat.add_le_add_right,x a u n1 n2 e,?hL i O9m,Straight,?xG r,?K w B (Q ?P) x,?yQ (i-r+1),s _ _ hp,?yQ (spot-r),fun _ _ _ _=>rfl,?eK*L b c,?fG r O9m,a≠r/\a≠b/\¬N a,Nat.log2,b'*f j / g,x j*hd j,(f i).natAbs,Shared->Prop,?xS (fun k=>(x k-?fU)*?g6),Fin k f l r,(s'.1 i),?dW j c h1 h2 h3,w3.extBut,xs=[?O],fun i j h1 h2 h3=>?_,LF n w A Q M,Us n w T ?gF,ly.keep s,N3 n ?e3 ?h6 D,a1.same e,.(show ?mE-r=(spot-r)+1 by omega),(zs++[y]),Dz π b ?p,Ec n w T R,.(by ext w7),xP n W i t s I,[?f nm,?f r1,?f D1,?f D2,?f b2],ms.length+1,2 ^ 9000,?b2 B i ?d,?xT ?bA,Fb n w ?C B,qb5 ?W (?i5),fun i=>(?gL).getD false,det i (dI V Z i),∀a∈as,∀o,H a=?a0->H' a=?a0,(?xP (s' y)),.(by unfold one;rw[?j ?lP,qh6]),Gj ms ns,Dj n W w i G R0 B0 t π b ?d s.1 s.2,Lm w (Q,QB),hx c ?e,bJ i*?h7,fun x y=>M x (?wT 0),∀j,j<i->G ?b3,wpAny_attempt,Rr ?p*A ?p 0,Nat->Bool,?eC j hj,fun c hc=>O9m,(qg9 ?eH),Classical.choose,(one,one),(f j).natAbs,?m n tk,.(by simpa using e),(z▸x.mq),congrArg,insAt_get,?cJ s ci (as.eraseIdx i),?vF j t ?q,Lm n ?k2,k3.push ?tB,h.move hi hs,?cV (fun r=>f ?bB) m,QB ?P a,.(fun z _=>by rw[e]),fun a=>f ?z,?cD i _ (qa0 hi),E9 (a 0) r,Fb w n (?i n S ?dL) SB,fun spot st s' hs hI hB hex=>?_,{ cls:=?dP,data:=.seq #[?sT,x] },qb5 h (?i5),?wZ cnt s',sh.blend,h.st.lt j hj,Hi W u st,E9 (a 0) m,Ai g ?q,det n (Vu (Fz A ?p) j),(?xP (s y)),Im ms k n,?y1 k f,E7 w n r E e ?bW,Rr ?cL*A 0 ?cL,Gj (Im ms p.1 p.2) ns,?xG b,E9 (a (c+1)) n,h.2.2 r c hr hc,s.heap.get?,fun x y=>M x (s y),h.good.restB,x m*T m c,(M r c).natAbs<=?jQ,E9 ?f2 r,LX H CS p r b (?c (?f q)) n W s M,∀j,j<i->(s.1 j ?b3).natAbs<L9,?y2 ?bJ,(a:Addr),(?jS).2.2,(M k ?aF).natAbs,hk k O9m O9m,.(by rw[←qd7];congr 1;omega),?tY<=?nI,.(by have:=dg.mn;have:=dg.mw;omega),(?gO).objs.size,putF "backs" b (putF "rows" r []),∀a∈?sY,?jF,Nat->?k0,?y5 H',K2.st.st,∃p,Td k w r.1 p,j.natAbs<L9,LF n w A Q R,?xS (fun u=>Ai (fun a=>?jZ*PB u a) n*P u c),fun t=>Dq.start _ _ _ _ _ _ t,Nat->?dD,?z8 ?p,?y1 m f,qe3 _ O9m,H a≠none,Rr j*A 0 j,?xL (pyNext ?aN) Q,?z0 H f,?xK H' ?b4,(A i c).natAbs,l.getD i d,Lev q m z D L G,.(by rw[Es];exact d),fun j _=>?fG j,?pP n w M',Dy K H a xs,wpAny_callSpecial?_slot,Ai (fun y=>?kZ*Q y c) (k+d),?xS (?f1),.(by decide),if ?hA then jR ?d (?pO) else ?pO,Pv i zs τ H,Ai (fun j=>?j0*Z j l) ?bB,Y k d f l r,"starts",?xT h.head,LX H CL R r2 b2 ?G w w r ?dG,hP i ?fR hi O9m,(tab k z),?xT hη,l9 kE hs,h'.IsTupleIter,⟨_,ge,rfl⟩,∀(g:?jJ)(K:?oX)(s:?nB)(st:C8 ?k n R t)(tab:∀j,j<r->t j<w)(ker:∀j,?aC->j<n->t j=kt j/\?aP=hd j),a,∀(p:?qB)(hA:?yI ?uT ?jQ)(dets:?rT),a,.(by have:(?bL:Int)<=((?gA:Nat):Int):=by rw[Int.natAbs_of_nonneg ?e];exact_mod_cast q),.(by show(?v4).1=_),.(by show(?v4).2=_),.(by obtain⟨tv,dx,fs,hp,l1,l2,l3,l4,l5,l6,l7,hrep⟩:=x.ob;obtain⟨r1,b1,r2,b2,lx,ly,f⟩:=x.li),.(by have e:=GO (w:=w) (n:=n) (f:=f) (g:=?t6) (h:=f) (?dU) (?dU)),.(by show ?xC 2 _;refine qa7 (qh0 ge rfl (x:=?f j) rfl ?_)),∀{M B0 R B:Mat}{t:?g}(hM:∀r c,r<n->c<W->?tX)(hD:N3 n (fun c=>c<W) M D),a,∀{K:W.Frag}{H H':Hp}{tp nm r1 D1 D2 b2:Addr}{n w k:Nat}{f:?h}{l r:?r},a,.(by have cm:∀C,?gS*C<=(?y+1)*C:=fun C=>qb4 _ (qn0 _)),.(by have f1:=p.f1;have f2:=p.f2;have fb:=p.fb;have hbF:rZ<=big:=?v3),.(by exact ?u (?L ⟨o,?oP⟩)),∀{n w:Nat}{A Q T P:Mat}(h:∀k c,k<n->c<w->?bN=?wV (P k) ?bO),a,.(by exact ?u (?u (?oP))),.(by unfold pD at this;rw[←this];exact Ag fun c _=>by rw[qo8]),.(by rw[?t,?o (by rw[x.1];exact hi)]at ec;cases ec),.(by have ht:s.TypeIs ?aN ?k7:=?vG),.(by rintro ⟨p,hp,e⟩;exact⟨p,hp,?sU⟩),.(by exact List.Nodup.sublist (List.Sublist.map _ qu7) h),.(by show ?z2 ?tP _;rw[qc8];omega),∀(dg:Gg z w k E ?eG P PB Q QB f)(il:Lm z ?k2),a,.(by rw[?f4,?f4]),.(by unfold insS;by_cases z:?hA),.(by have e1:=cm ?bD;have e2:=cm ?c2),.(by have s1:=sC ?bD;have s2:=sC ?c2),.(by rw[Al (Ep h hn ?U)];exact h),.(by rw[Fm hx hy ne ?t5];exact ?I),∀(h:Rn n w r E L m e A T P PB Q QB kl kr hl hr),a,∀(f3:?xM H0 r2)(f4:?xM H0 b2),a,∀{i j:Int}(hi:?nJ)(hj:?uG),a,∀{r b:Addr}{H H':Hp}{o:HO}(x:?gP),a,∀(h:Dq n W w i (fun c=>c<W) M B0 t R B),a,∀(n w D π β π2 β2 b2:Nat)(A:Mat),a,∀(h4:b0<=b)(hβ:b<β)(hβ2:?kX),a,∀(hη:∀j,?aC->j<n->hd j<=?gA),a,∀{a:Addr}{xs:?dY}(h:?uZ),a,∀{z m w:Nat}{L T B:Mat}{p:?g},a,∀{n w D:Nat}{A:Mat}(h:?oJ),a,∀{Q:?dS Value->?rI},a,∀(H:Je n W w i G R0 B0 t π b),a,∀(dl:?q4),a,@(?a fun i c h1 h2 h3=>?b i c h1 h2 h3),@(E8 X (.builtin "any") (fun xs H Q=>∃(p:Addr) (bs:?pS),?rO/\SqL ?a H p (bs.map V.bl)/\Q (.bl (bs.any id)) H)),@(fr _ _ (fun z=>?a ?hC) (fun z=>?b ?i2) e),@(?sK (?v0 (name:=Str.ofString "__next__") ht qq0 (qk3 qq0 ht ?o0 ?a (F.args_enumerate_next_1 _)))),@(WX K CL CW H0 ?a p L R nm n w ?b l r ns),@(BB n W C δ ?a ?b),@(s (if y=0 then y0 else if y=y0 then ?a else y)),@(SX CS H0 H p q M n W t ?a ?b),@(N5 n w A ?a ?b),@(?S _ _ ?a _ _ ⟨?b,g,d,tk+1,os⟩),@(show ?a<?b by omega),@(Rep K ?a v (dT n w ?b)),@(SX CS H0 H' p q M n W t ?a ?b),@(Cc n ?k w r ?a ?b M B0 kt hd t s.1 s.2),@(?c (?w ?a)),@((5*?n+?n*?n+1)*?a),@(?aJ (?a:Str)=?c (?f ?b)),@(H p=?c (?V ?a dx ?b)),@(b+i+3+2*π+?a*(?a2)),@(?a (show _<=F by omega)),@(h'.get? ?a1=?c { cls:=?dP,data:=.seq #[?m n s.toks,?a] }),@(Ai (fun a=>?a a*QB ?b a) w),@(fun z=>?a ?aB),@(Cc n W w r i ?a ?b B0 kt hd t R B),@(?i n (fun i j=>u1.1 j ?a) r.1),@(?S _ _ (field ?aN ?a>>=_) _ _ ?b),@(P4 w ?aM n r kr hr (?i n ?a ?b)),@(P4 n ?a w r kt hd ?b),@(LX ?a CL R r2 b2 ?b4 w w ?b ?dG),@(H0 ?a=none),@(Ag fun a _=>?a),@(WX K CL CW H0 H p L R nm n w ?G ?a r (Io m f)),@(show ?a=?b by omega),@(LX ?a CL L r1 b1 ?b n n l ?hQ),@(?S (model prog w) A ?a ?b E s),@(?a ?b=Option.none),@(Ai (fun c=>Ai ?a z) ?b),@(∀x c,x<w->c<n->?oQ=N5 w n ?eN (?a x) ?p7),@(fun x y=>?i w A one ?c4 ?a),@(Rep K ?a (?f D2) (dT w w fun i j=>r.1 j i)),@(Rep K ?a (?f D1) (dT n n fun i j=>l.2 j i)),@(Ai ?a n),@(?a j h1 h2),@(∀x,x<q->?K m D ?a x=0),@(fun j hj hn=>?a j hj hn),@((?a I1 D1).headD ?a8 ?b (show j<i+1 by omega)),@(pP i j g a ?a f r),@(fun a u n1 n2 e=>by rw[Al ?a];exact ?r2),@(det ?q (?a A ?b)),@(fun a o e=>fr _ _ (Ap e ?a) (Ap e ?b) (?jK)),@(Gg n w ?a E A P PB Q QB ?b),@(Cc n ?k w r i ?a ?C PB kt hd t s.1 s.2),@(iQ n w b0 ?a π b β ?b π2 b2 β2 C1 C2 F),@(fun i j hij hj=>?a ?P ?b5 O9m O9m O9m),@(Ql K ?a tp nm r1 D1 D2 b2 n w k f l r),@(JL n w r M B0 kt hd π b η β ?a t s),@((?a O9m).cols (fun k c _ hc=>?c7) ?rA),@(?a[i]?=?c ?b),@(?a ?b=?c (.dK (?aI))),@(LX ?a C p r b sv n W s ?b),@(?b8 ?a e j ?b old),@((∀b o,b≠e->b≠j->?jH)->Q (?a ?b) ?p3),@(fun c hc=>?a i c hi hc),@(by rw[Al ?a];exact e),@(Lat.insS ?a ?d st s'),@(?i w T P ?a ?b),@(Ro n w M l r ?a),@(∀i c,i<n->c<w->?a<=?b),@(sx _ _ (Ep ?a hp ?U) ?b),@(LX H' CS p ?a ?b (?c (?f q)) n W s' M),@(?bQ+(spot-r)*?aQ+?a),@(?X fun x hx=>by rw[?a x hx,qe2]),@(?X fun a ha=>by rw[?a a ha,qe2]),@(fun i j=>s1.1 j ?a),@(fun a ha=>⟨(?a).1,(?b).2.1,?eH⟩),@(Py ?e2 η r ?a),@(Ag fun k _=>?a),@(Ag fun b _=>?a),@(mV (fun r=>Ln ?hO ?gX ?a r ?b) ?d1),@(Rep K ?a (?f r1) (dT n n l.1)),@(Rep K ?a (?f b2) (dT w w r.2)),@(upd ?a nm (?w (ns'.map ?cC))),@(tL ?a (by have:=p.π9;omega)),@(fun j hj1 hj2=>?a),@(fun d hd=>?aR (?a d O9m) O9m),@(TA ?a r as n W ?b),@(Ln π b ?a r ?b),@((?a).length<=?b),@(fF _ _ (?wX ?a n) (?wX ?b n) O9m _ x y),@(?p*(i+1+(?x5 i)+?a)),@(β+(?y+1)*?bD+C1+?x2 (2*π+4)<=?a),@(β2+(?y+1)*?c2+C2+?x2 ?b6<=?a),@(∀x c,x<n->c<w->?a x c=?wV ?b ?bO),@(?dT ?a7 i (?c1) ?a),@((det k ?a).natAbs=(det k ?b).natAbs),@(fun a=>p a*Ai (fun b=>?iU) ?a),@(H' ?a=?x1 ?b),@(Ai (fun l=>(RB l a-?dF)*?a) n),@(fun M' e=>?cR ?a (hrep M' e))])
def N5[?H](A:Mat)(p q:?h):Int:=?xS (?zA w)
theorem IM[?H](A:Mat):Bil (N5 n w A):=by
 refine⟨fun u v y a b=>?_,fun x u v a b=>?_⟩
 . unfold N5;rw[←Ay,←Ay,←Cd];exact ?yR ?a9
 . unfold N5;rw[←Ay,←Ay,←Cd];refine ?yR ?_
   have:Ai (fun c=>A k c*(a*u c+b*v c)) w=a*Ai (fun c=>A k c*u c) w+b*Ai (fun c=>A k c*v c) w:=by
    rw[←Ay,←Ay,←Cd];exact Ag fun c _=>?a9
   rw[this]
   grind
theorem Uq[?aE]{A:Mat}{p p' q q':?h}(hp:∀a,a<n->p a=p' a)(hq:∀b,b<w->q b=q' b):?o9=?wV p' q':=by
 unfold N5;refine Ag ?nF;rw[hp a ha,Ag fun b hb=>by rw[hq b hb]]
theorem Md[?H](A:Mat)(p q:?h):?o9=N5 w n ?eN q p:=by
 unfold N5;rw[show(?zA w)=fun a=>Ai (fun b=>p a*(?iU)) w from ?iM fun a=>(Ay ..).symm];rw[Bw];refine ?yS ?_;rw[←Ay];exact ?xH ?a9
theorem bW[?aE]{A:Mat}{x:?h}{U:Mat}{q:?h}:∀m,?wV (fun c=>?h9) q=?kR
 | 0=>by
   show ?wV (?g5) q=0;unfold N5;exact ?X fun a _=>?hE
 | m+1=>by
   have e:(fun c=>Ai (fun k=>x k*U k c) ?e5)=fun c=>1*(fun c=>?h9) c+?kI:=?iM fun c=>by
    show ?h9+?kI=1*?h9+?kI;omega
   rw[e,(?qT).l,bW m];show 1*?kR+x m*?wV (U m) q=?kR+x m*?wV (U m) q;omega
def LF[?H](A Q M:Mat):Prop:=∀k c,k<n->c<w->M k c=?wV (fun a=>M k ?z) ?bO
theorem LF.rows{n w W:Nat}{A Q M R:Mat}(h:?rQ)(hW:w+n<=W)(e:∀i,i<n->In W n M (R i)):?uH:=fun i c hi hc=>by
 obtain⟨x,hx⟩:=e i hi;rw[?sG];have:?wV (fun a=>R i ?z) ?bO=N5 n w A (fun a=>?xS (fun k=>x k*(fun k a=>M k ?z) k a)) ?bO:=Uq (fun a ha=>hx ?z O9m) ?dU;rw[this,bW];exact Ag fun k hk=>by rw[?lJ]
theorem Dq.told{n W w:Nat}[?eV]{A Q M B0 R B:Mat}[?aV](h:Dq n W w n G M B0 t R B)(hW:w+n<=W)(k:?rQ):?uH:=k.rows hW (h.good.eqv n ?l).1
def beside(w:Nat)(T P:Mat):Mat:=fun r c=>if c<w then T r c else P r ?fR
theorem beside_lo{w:Nat}{T P:Mat}{r c:Nat}(h:c<w):?yG r c=T r c:=?o h
theorem beside_hi(w:Nat)(T P:Mat)(r a:Nat):?yG r ?z=P r a:=by unfold beside;rw[?v,Nat.add_sub_cancel_left]
theorem N6[?vU]:LF n w A Q ?C:=fun k c hk hc=>by
 rw[?c7,?lJ];exact Uq (fun a _=>(?iS w T P k a).symm) ?dU
theorem Te[?vU]:∀c k,c<w->k<n->tr T c k=N5 w n ?eN ?bO (P k):=fun c k hc hk=>by
 show ?bN=_;rw[?lJ,Md]
variable[?eS]
def Fr(π b i:Nat):Nat:=i*?cK+?p*(?z4 2)
def Dz(π b:Nat):?g
 | 0=>0
 | i+1=>?eL+?fK
def Py(c η r:Nat):?g
 | 0=>0
 | d+1=>?oA+(c+d*?aQ+?fD+3)
universe Lat
namespace Lat
open Hb
variable[?eS]
theorem Cc.wide{n W w r i:Nat}{G G':?c3}{M B0 R B:Mat}[?iC](h:?xA G M)(hG:∀c,G c->G' c):?xA G' M:=⟨⟨h.st.good,h.st.st,fun j hj=>hG _ (h.st.pg j hj)⟩,h.tab,h.ker⟩
theorem OI{n W r β:Nat}{kt:?g}[?eU](b:?q0)(hr:?bT)(hC:∀j,?aC->j<n->C ?aF)(hδ:δ<=β):AG n r r kt (β-δ) s.1:=fun k j h1 h2 h3=>by
 have:=b.2.2 k ?aF O9m (hC j h2 h3);have e:?bC=2 ^ (β-δ)*2 ^ δ:=?u6
 rw[e]at this;exact Nat.lt_of_mul_lt_mul_right ?W
def moveS(i s:Nat)(x:?x):?x:=(?b2 x.1 i s,?b2 x.2 i s)
def jR(p:Nat)(x:?x):?x:=(Ge x.1 p,Ge x.2 p)
theorem vZ{n i s r:Nat}[?aY](hs:s<=i)(hr:r<n):mvI i s r<n:=by unfold mvI;split;omega;split;omega;split<;>omega
theorem BB.move{n W β i s:Nat}[?mQ][?aY](hs:s<=i):?wS β (?hT i s x) :=
 ⟨h.1.move hi hs,h.2.1.move hi hs,fun r c hr hc=>by show(?b2 x.1 i s r c).natAbs*_<_;rw[move_row];exact h.2.2 _ c (vZ hi hs hr) hc⟩
theorem BB.neg{n W β p:Nat}[?mQ]:?wS β (jR p x) :=
 ⟨h.1.neg,h.2.1.neg,fun r c hr hc=>by
  show(Ge x.1 p r c).natAbs*_<_;unfold Ge;by_cases e:r=p
  . subst e;rw[Bi,qc2];exact ?tS
  . rw[Bt e];exact ?tS⟩
def insS(i spot st:Nat)(x:?x):?x:=if (?kQ).1 ?d st<0 then jR ?d (?kQ) else ?kQ
theorem WH(i spot st:Nat)(R B:Mat):?kD=if ?hA then Ge (?mX) ?d else ?mX:=by
 ext w4
 . rw[?J];ext vK;rw[?J];rfl
 . rw[?T];ext vK;rw[?T];rfl
theorem wH(i spot st:Nat)(R B:Mat):?lX=if ?hA then Ge (?s4) ?d else ?s4:=by
 ext w4
 . rw[?J];ext vL;rw[?J];rfl
 . rw[?T];ext vL;rw[?T];rfl
theorem BB.ins{n W β i spot st:Nat}[?mQ][?aY](hs:?aT):?wS β (insS i ?d st x):=by
 unfold insS;split
 . exact(?t2).neg
 . exact ?t2
theorem PY{n W w i β:Nat}[?eV]{R0 B0 R B:Mat}[?aV]{π b spot st:Nat}[?wL](p:Dj n W w i G R0 B0 t π b ?d R B)(hs:?aT)(h0:∀c,c<st->R i c=0)(h1:R i st≠0)(hW:st<W)(hG:G st)(yG:?sJ)(hex:?fF)(bb:?wS (β+?f7) ?gJ) :
 SK n W w i G R0 B0 ?a7 (?x5 i) ?kD ?lX ∧
 N2 n W w i ?kD ?lX ?a7 0 (?uL).1 (?uL).2 ∧
 ?p2 ∧
 (∀d,d<=i+1->?wS (?eM) (?z8 d)) ∧
 (∀d,d<=i->∀m,m<=d->?wS (?eM) (shrS ?a7 (i-d) ?iQ (?z8 d) m)):=by
 have I:=p.ins H hs h0 h1 hW hG yG hex;rw[←WH,←wH]at I;have b1:?p2:=(?kS (by have:=qb4 (?cK) hs;omega)).ins H.hi hs;have run:=Yj (β:=?kB) I H.hi b1
 have up:∀d,d<=i+1->?kB+d*(?z4 2)<=?eM:=fun d hd=>by
  unfold Fr;have:=qb4 (?z4 2) hd;omega
 refine⟨I,?_,b1,fun d hd=>(run d hd).2.1.mono (up d hd),fun d hd m hm=>((run d O9m).2.2 hd m hm).mono (up ?aH O9m)⟩;have D:=(run ?p ?l).1;rw[qj0]at D;exact D
universe Lat
namespace Lat
open Hb
variable[?eS]
theorem Vi{w m D:Nat}{T P:Mat}(h:N3 m ?bJ T D):N3 m ?bJ ?C D:=fun i hi s hs=>by
 have e:(det i fun r l=>?yG r ?e1)=det i fun r l=>T r ?e1:=C7 fun r c _ hc=>?bS (hs c hc);rw[e];exact h i hi s hs
theorem In.cols{w n:Nat}{R R':Mat}{u v:?h}(h:In w n R u)(hR:∀k c,k<n->c<w->?g6=R' k c)(hu:∀c,c<w->u c=v c):In w n R' v:=by
 obtain⟨x,hx⟩:=h;exact⟨x,fun c hc=>by rw[←hu c hc,hx c hc];exact Ag fun k hk=>by rw[hR k c hk hc]⟩
theorem Ec.cols[?aE]{T T' S S':Mat}(h:Ec n w T T')(e:∀k c,k<n->c<w->?bN=S k c)(e':∀k c,k<n->c<w->T' k c=S' k c):Ec n w S S':=by
 obtain⟨r,t,hr,st,hz⟩:=h.st;refine⟨fun i hi=>(h.fwd i hi).cols e (?yD e'),fun i hi=>(h.bwd i hi).cols e' (?yD e),r,t,hr,⟨?eC,?cP,fun j c hj hc=>?_,?jA,fun k j hk hj=>?_⟩,fun i c h1 h2 h3=>by rw[←e' i c h2 h3];exact hz i c h1 h2 h3⟩
 . rw[←e' j c ?e (by have:=?sN;omega)];exact ?dC j c hj hc
 . rw[←?q2];exact ?gW
 . rw[←e' k _ ?e ?eB,←?q2];exact ?dQ k j hk hj
theorem jV{n W w r i E π b:Nat}{e:Int}{T P B0 R B:Mat}[?iC][?eT](hW:w<=W)(h:?xA ?bJ ?C)(hi:i<r)(hE:E<=?D)[?iG](hb:i*E<=?E)(hπ:?gH):Je n W w i ?bJ R B t π b:=by
 have rn:=g.sq.rn;refine h.st.putD (Vi g.dets) O9m O9m (?sO) (b0:=π) (fun c hc=>?_) hE hb ?l hπ;rw[?c7];obtain⟨a1,a2⟩:=g.le i c O9m hc;omega
theorem M7{n w r E:Nat}{e:Int}[?eV]{A Q T P B0 R B:Mat}[?iC](he:0<e)[?eT][?i9](h:Cc n ?k w r n G ?C B0 kt hd t R B)(k:?oS) :
 ?rY/\?tN/\?pW/\?z7 R (fun a=>R x ?z):=by
 have s:?rY:=?y7 h.st.rows;exact⟨s,s.going he g,h.done K,h.st.told ?l (N6 k)⟩
universe Lat
namespace Lat
open Hb
variable[?eS]
theorem kI{n W w i D π b b0:Nat}[?vP][?wD][?aY](h1:?f5)(h2:?l7)(h3:?fJ)(h4:b0<=b):Je n W w i (fun c=>c<W) R B t π b :=
 h.putD hD O9m hi (fun _ hc=>hc) (?yD hM) h1 h2 h3 h4
theorem Ri{n W w i D b b0 β:Nat}[?vP](hB:∀k a,B0 k a=if k=a then 1 else 0)[?wD](hi:i<=n)(h2:?l7)[?wF]:BB n W ?dE 0 β ?gJ:=by
 refine⟨fun r c hr hc=>?_,fun r a hr ha=>?_,fun _ _ _ z=>z.elim⟩
 . have le:(R r c).natAbs<=?E:=by
    by_cases z:r<i
    . exact qa6 (h.rowD hD hi (fun _ hc=>hc) z hc) h2
    . rw[h.good.rest r c ?e];exact qa6 (hM r c hr hc) (C6 h4)
   exact qb5 le (qh3 ?bH hβ)
 . have pM:∀x,x<n->∀c,pT n B0 M x c=M x c:=fun x hx c=>by
    show ?xS (fun k=>B0 k x*M k c)=M x c;rw[?B (j:=x) hx fun k _ hne=>by rw[hB,?j hne];simp,hB,?t,qd0]
   by_cases z:r<i
   . have:=h.backs hi (a:=a) (m:=?jQ) (fun k hk=>by rw[?tV k a hk,hB]) (fun j hj=>by rw[pM a ha];exact ?pI) (fun j hj=>?pI) (fun _ _ j _=>pM a ha _) r z;rw[←qd7]at this;exact ?s7
   . show(B r a).natAbs<?bC;rw[?tV r a ?e,hB];have:1<?bC:=Nat.one_lt_two_pow O9m;split
     . exact this
     . exact qt4 ?bH ?W
universe Lat
namespace Lat
open Hb
theorem Es(w:Nat)(R:Mat):?i w R (fun r a=>R r ?z)=R:=by
 funext r c
 unfold beside;by_cases h:c<w
 . rw[?o h]
 . rw[?j h];show R r (w+?fR)=R r c;rw[show w+?fR=c by omega]
theorem P4.table{n W w r:Nat}[?cX]{T T' P:Mat}(h:?xE W ?C)(hz:∀i c,r<=i->i<n->c<w->T' i c=0):?xE W (?i w T' P):=by
 have same:∀k c,w<=c->?i w T' P k c=?e0:=fun k c hc=>by unfold beside;rw[?v,?v]
 refine⟨?j2,?hP,h.ge,h.lt,?kV,?bA,fun k j h1 h2 h3=>?_⟩
 . by_cases z:c<w
   . rw[?bS z];exact hz j c h1 h2 z
   . rw[same j c ?e];exact ?rM
 . rw[same j _ (?k5)];exact ?v9
 . rw[same k _ (h.ge j h1 h3)];exact ?fV k j h1 h2 h3
theorem Gn{n w w':Nat}{T T' P B:Mat}(h:?s6):Fb n w' (?i w' T' P) B:=fun i j hi hj=>by
 have:=?pK;unfold pD at this ⊢;rw[←this];exact Ag fun c _=>by rw[beside_hi,beside_hi]
structure Rn(n w r E L m:Nat)(e:Int)(A T P PB Q QB:Mat)(kl kr:?g)(hl hr:?h):Prop where
 e0:0<e
 going:?jJ
 kl:P4 n ?k w r kl hl ?C
 kr:?xD (tr T) Q
 told:?oS
 dl:?q4
 dr:Fb w n (?i n (tr T) Q) QB
 left:lG n w r L m T
theorem Rn.next{n w r E L m:Nat}{e:Int}{A T P PB Q QB R RB S SB:Mat}{kl kr tl ur:?g}{hl hr:?h}{G G':?c3}(hL:e.natAbs.log2<=L)[?w9]
 (s1:Cc n ?k w r n G ?C PB kl hl tl R RB)
 (s2:Cc w ?aM n r w G' (?i n ?bW Q) QB kr hr ur S SB) :
 ?rR/\(¬?nK->0<m/\Rn n w r E L (m-1) e A ?gF (?aZ) RB (?dL) SB kl kr hl hr):=by
 obtain⟨a1,a2,a3,a4⟩:=M7 h.e0 h.going h.kl s1 ?f0;have kr':?xD ?bW Q:=?wN h.kr.table a2.sq.row0;have t2:?xO Q:=fun x c hx hc=>Te (T:=R) (P:=?m4) a4 x c hx hc;obtain⟨b1,b2,b3,b4⟩:=M7 h.e0 a2 kr' s2 t2;have st:?rR:=⟨R,a1,b1⟩
 refine⟨st,fun ns=>?_⟩;obtain⟨m0,lf⟩:=h.going.next h.e0 hL st h.left ns;refine⟨m0,h.e0,b2,?_,?_,?_,?_,?_,lf⟩
 . have:P4 n ?k w r kl hl (?i w R ?aZ):=by rw[Es];exact a3
   exact ?wN ?i4 b2.sq.row0
 . have:?xD S ?dL:=by rw[Es];exact b3
   exact ?wN ?i4 b2.sq.flip.row0
 . intro x c hx hc;show S c x=_;rw[b4 c x hc hx,Md]
 . have d:=s1.st.good.dual h.dl;have:?oO:=?uW
   exact ?gE
 . have d:=s2.st.good.dual (Gn h.dr);have:?t9:=?uW
   exact ?gE
def one:Mat:=fun i j=>?h3
theorem Sx[?H](T:Mat):Fb n w (?i w T one) one:=fun i j hi hj=>by
 unfold pD
 rw[show(fun c=>?i w T one i ?e4*?i3)=fun c=>(if c=i then 1 else 0)*?i3 from ?iM fun c=>by
  rw[beside_hi];show(if i=c then(1:Int) else 0)*_=_;by_cases e:i=c
  . rw[?i0,?o e.symm]
  . rw[?j e,?j ?j5]]
 rw[Da (fun c=>?i3) i n,?o hi];show(if j=i then(1:Int) else 0)=_;by_cases e:i=j
 . rw[?i0,?o e.symm]
 . rw[?j e,?j ?j5]
theorem LQ[?aE](A:Mat):∀x c,x<n->c<w->A x c=?wV (one x) (one c):=fun x c hx hc=>by
 unfold N5
 rw[?B (j:=x) hx fun k _ hne=>by
  have:one x k=0:=?j (?x9 hne);rw[this];simp]
 rw[?B (j:=c) hc fun k _ hne=>by
  have:one c k=0:=?j (?x9 hne);rw[this];simp]
 have e1:one x x=1:=?t;have e2:one c c=1:=?t;rw[e1,e2];simp
theorem EN{n w D D' L:Nat}{A R RB S SB:Mat}{t u:?g}{G G':?c3}(hD:N3 n G ?h6 D)(hD':N3 w G' (?i n ?bW one) D')
 (s1:Dq n ?k w n G ?h6 one t R RB) (s2:Dq w ?aM n w G' (?i n ?bW one) one u S SB) :
 ∃(r:Nat) (e:Int),?bT/\r<=w/\e<=D/\Rn n w r D L (r*(L+2)) e A ?gF (?aZ) RB (?dL) SB t u (fun j=>?aP) (fun j=>?mB) ∧
   (∀j,j<n->?aP<=D)/\∀j,j<w->?mB<=D':=by
 obtain⟨r,hr,st,hz,K,pr,hd⟩:=s1.first hD;obtain⟨r',hr',st',hz',K',_,hd'⟩:=s2.first hD';have e0:0<?cV (fun j=>?aP) r:=Cw fun j hj=>?gW;have rs2:Ec w n ?bW (tr ?gF):=?y7 s2.rows;have g:=Us.first (T:=A) hr st hz rs2 pr;have rw':=g.sq.rw
 have er:r'=r:=by
  refine qj1 ?sP ?sP
  . have p:=st'.pos r z;have:S r (u r)=0:=g.sq.col0 (u r) r (st'.lt r z) ?l O9m;omega
  . have p:0<S r' r':=g.pos r' z;have:S r' r'=0:=hz' r' r' ?l O9m O9m;omega
 subst er;have d1:=s1.good.dual (Sx n w A);have d2:=s2.good.dual (Sx w n ?bW);have tl:=s1.told ?l (N6 (LQ (n:=n) (w:=w) A));have t2:?xO one:=fun x c hx hc=>Te (T:=R) (P:=?m4) (Q:=one) tl x c hx hc;have tl2:=s2.told ?l (N6 t2);refine⟨r',_,hr,rw',pr,⟨e0,g,?_,?_,fun x c hx hc=>?_,?_,?_,lG.start g⟩,hd,hd'⟩
 . have:P4 n ?k w r' t (fun j=>?aP) (?i w R ?aZ):=by rw[Es];exact K
   exact ?wN ?i4 ?kC
 . have:P4 w ?aM n r' u (fun j=>?mB) (?i n S ?dL):=by rw[Es];exact K'
   exact ?wN ?i4 g.sq.flip.row0
 . show S c x=_;rw[tl2 c x hc hx,Md]
 . have:?oO:=by rw[Es];exact d1
   exact ?gE
 . have:?t9:=by rw[Es];exact d2
   exact ?gE
structure Gg(n w m:Nat)(E:Nat)(A P PB Q QB:Mat)[?Y]:Prop where
 mn:m<=n
 mw:m<=w
 diag:∀x y,x<n->y<w->?wV (P x) (Q y)=if x=y then f x else 0
 pos:∀x,x<m->0<f x
 zero:∀x,m<=x->x<n->x<w->f x=0
 prod:?cV f m<=E
 dl:Fb n 0 P PB
 dr:Fb w 0 Q QB
theorem z7[?aE]{T P B:Mat}(h:?s6):Fb n 0 P B:=fun i j hi hj=>by
 rw[←?pK];unfold pD;exact Ag fun c _=>by rw[beside_hi,qo8]
theorem Rn.diag{n w r E L m:Nat}{e:Int}{A T P PB Q QB:Mat}{kl kr:?g}{hl hr:?h}[?w9](s:?nK):?y1 r (fun x=>T x x):=by
 refine⟨h.going.sq.rn,h.going.sq.rw,fun x y hx hy=>?_,h.going.pos,fun x h1 h2 h3=>h.going.sq.row0 x x h1 h2 h3,h.going.prod,z7 h.dl,z7 h.dr⟩;rw[←?f0 x y hx hy];by_cases z:x=y
 . rw[?J,z]
 . rw[?T];exact s x y hx hy z
theorem Gg.share{n w m E:Nat}[?iB](h:?uM){i j:Nat}(hij:i<j)(hj:j<m){g a b:Int}(S:Shares ?eJ (f j) g a b) :
 Gg n w m E A (addR (addR P i j 1) j i (-(b*f j / g))) (addR (addR PB j i (-1)) i j (b*f j / g)) (blendR Q i j a b (-(f j / g)) (?aK)) (blendR QB i j (?aK) (f j / g) (-b) a) (put2 f i j g (?aK*f j)):=by
 have ne:?hY:=O9m
 have mn:=h.mn;have mw:=h.mw;have pi:=?bA i O9m;have pj:=?bA j hj;have pg:=S.pos;have pr:=S.pair;have gz:?aK*g=f i:=Int.ediv_mul_cancel S.dA
 have po:0<?aK*f j:=by
  have:0<g*(?aK*f j):=by rw[pr.pr];exact Int.mul_pos pi pj
  exact Int.pos_of_mul_pos_right ?W O9m
 refine⟨mn,mw,aL (?qT) ne O9m O9m O9m O9m ?fE S,?oC,fun x h1 h2 h3=>?_,?_,?_,?_⟩
 . by_cases e1:x=i
   . rw[e1,Q7];exact pg
   . by_cases e2:x=j
     . rw[e2,Q6 f ne];exact po
     . rw[Ji f e1 e2];exact ?bA x hx
 . rw[Ji f ?e ?e];exact ?dW x h1 h2 h3
 . rw[JJ hij hj ?e ?e pr.pr];exact h.prod
 . have d1:=h.dl.add (p:=i) (q:=j) O9m O9m ne 1;have d2:=d1.add (p:=j) (q:=i) O9m O9m (?lP) (-(b*f j / g));rw[qn2]at d2;exact d2
 . have B:=S.blend (π:=?rH+?sS) pi (qa6 O9m (qd4 qp7)) (qa6 O9m (qd4 qp7));have d:=h.dr.blend (p:=i) (q:=j) O9m O9m ne B.one;rw[qn2]at d;exact d
theorem Gg.le{n w m E:Nat}[?iB](h:?uM){x:Nat}(hx:x<m):f x<=E:=qt8 (Xd ?bA hx) h.prod
def U9(n r:Nat)(kt:?g):?c3:=fun c=>∃j,?aC/\j<n/\c=kt j
theorem P4.bits{n W w r β η:Nat}[?cX]{M B:Mat}(K:?pY)[?wG](b1:?s n W β M)(b2:?s n n β B)(hβ:?lR):BB n W ?eW ?bV β (M,B):=by
 refine⟨b1,b2,fun k c hk hc=>?_⟩;obtain⟨j,h1,h2,rfl⟩:=hc
 have le:?u4<=?gA:=by
  ext iE;have q:=?vD
  have q':?p0:=by
   ext vJ
   exact_mod_cast this
  rcases qk5 k j with z | z | z
  . obtain⟨a,b⟩:=?hS k j h1 z h2;omega
  . subst z;rw[?gR k h1 h2];exact q'
  . rw[?dK k _ ?e hk (?hR j k h1 z hk)];exact ?I
 show ?u4*2 ^ ?bV<?bC;have e:?bC=2 ^ ?aQ*2 ^ ?bV:=?u6
 rw[e];refine Nat.mul_lt_mul_of_pos_right ?_ (Nat.two_pow_pos _);exact m8 le
def Ln(π b η r n:Nat):Nat:=?aO+?f9
theorem SH{n W r β η π b:Nat}{kt:?g}[?eU](bb:BB n W ?eW ?bV (?dH) s)(hr:?bT)(hβ:?lR):AG n r r kt ?e2 s.1:=by
 have:=OI bb hr (kt:=kt) (fun j h1 h2=>⟨j,h1,h2,rfl⟩) O9m;rw[show ?dH-?bV=?bQ by omega]at this;exact this
theorem jF(π b:Nat){i r:Nat}(h:i<=r):?eL<=?aO:=by
 induction r with
 | zero=>rw[?qG];ext Z
 | succ r ih =>
   by_cases e:i=r+1
   . rw[e];ext Z
   . have:=?bI;show _<=?aO+Fr π b r;omega
theorem KJ(c η r:Nat){d e:Nat}(h:d<=e):?oA<=?o1:=by
 induction e with
 | zero=>rw[?xJ d 0];ext Z
 | succ e ih =>
   by_cases z:d=e+1
   . rw[z];ext Z
   . have:=?bI;show _<=?o1+_;omega
universe Lat
namespace Hb
open PySem L2
theorem gH{g:TG}{te:TE}{D:Addr}{Q:?m7}{τ:St}{H:Hp}{K:W.Frag}{a b:Addr}{xs ys:?dY}{n:Nat}(hn:xs.length=n/\ys.length=n)(Pv:Nat->?dY->St->?m7)(h0:Pv 0 [] τ H)(hl:∀i zs τ H,i<=n->?v5->?uZ/\Dy K H b ys)
 (hs:∀i x y zs τ H p,?y8 xs x->?y8 ys y->?v5->H p=none->g (?O) τ (upd H p (.tup [x,y])) fun τ2 H2=>te τ2 H2 fun y H4=>H4 D=?x1 zs/\zs.length<sizeLine/\Pv ?p ?rW τ2 (upd H4 D (?w ?rW)))
 (hd:∀zs τ H,Pv n zs τ H->Q H):Rp (Ityp K a b) g jG te D Q τ H:=kR hn Pv h0 hl (fun i x y zs τ H p e1 e2 q hp=>hs i x y zs τ H p e1 e2 q hp) hd
noncomputable abbrev big:Nat:=67108864
theorem uD:∃n:Nat,n=?s3:=⟨_,rfl⟩
def L9:Nat:=?sQ uD
theorem Ze:L9=?s3:=?p6 uD
theorem FL{i j:Int}{n:Nat}(hi:?nJ)(hj:j.natAbs<?fM)(h:9000+n<=134217728:=by decide):?hX i j:=Sk ?mF hj h
theorem aW[?wB]:?hX i j:=Sk ?mF ?oU ?bH
theorem Uu.of9{i j:Int}(h0:j≠0)(h:?uG):Uu i j:=Uu.of h0 (Ze▸h)
theorem At3[?wB]:(i*j).natAbs<2 ^ 18000:=by
 rw[qb0,show 18000=9000+9000 from rfl,qd7];exact qp0 ?mF ?oU
theorem tL{x π:Nat}(h:x<=?D)(hπ:π<=8999):x<L9:=by
 rw[Ze];exact ?tC
def BO[?aX][?M]:Prop:=?qE n W big s.1/\?qE n n big s.2
def TA(H:Hp)(r:Addr)(as:?cU)[?aX](f:Lat.Mat):Prop:=as.length=n/\H r=?x1 (?dZ)/\∀i c,?nD->H c=?x1 (VI W ?eJ)
section
variable{K:W.Frag}{H H':Hp}{r:Addr}{as:?cU}{n W:Nat}{f g:Lat.Mat}
theorem TA.keep[?a4](h1:∀o,H r=?a0->H' r=?a0)(h2:?sA):?jN:=⟨x.1,h1 _ ?d7,fun i c e=>h2 c (qc6 e) _ (?cD i c e)⟩
theorem TA.same[?a4][?iJ]:?jN:=?mA (fun _ e=>?j6) fun _ _ _ e=>?j6
theorem TA.put{y:Addr}{o:HO}[?a4](h1:r≠y)(h2:∀a∈as,a≠y):?z0 (upd H y o) f:=?mA (fun _ e=>?yE h1) fun a ha _ e=>?yE (h2 a ha)
theorem TA.row[?a4]{i:Nat}[?aY]:∃c,?nD/\?y8 (?dZ) (?f c)/\c∈as/\SqL K H c (VI W ?eJ):=by
 obtain⟨h1,_,h3⟩:=x;have e:=qa0 (l:=as) (i:=i) O9m;refine⟨as[i],e,by rw[qa9,e];rfl,qe8 _,.of (h3 i _ e)⟩
theorem TA.rep[?a4]:Rep K H (?f r) (dT n W f):=by
 refine DX (us:=?dZ) (.of ?d7) (by rw[qa2,x.1]) ?hU;obtain⟨c,_,e,_,h⟩:=x.row (K:=K) hi;exact⟨c,e,h⟩
theorem TA.there[?a4]:H r≠none/\∀a∈as,?uO:=by
 refine⟨by rw[?d7];exact(fun z=>nomatch z),?nF⟩;obtain⟨i,hi,rfl⟩:=qh5 ha;rw[?t7];exact fun z=>by cases z
theorem TA.of{D:Addr}{H1:Hp}{w h:Nat}(R:Rows H H1 D as w f)(hl:as.length=h):TA H1 D as h w f:=⟨hl,R.at,fun i c e=>(R.row i c e).2.2⟩
theorem TA.congr[?a4](e:∀i c,i<n->c<W->f i c=g i c):?z0 H g:=by
 refine⟨x.1,?d7,fun i c ec=>?_⟩;have hi:i<n:=by rw[←x.1];exact(?jY ec).1
 rw[?cD i c ec,Pb fun k hk=>e i k hi hk]
theorem TA.x[?iA][?a4][?i8]:?jN:=by
 refine ?mA (fun o e=>?yJ ?d7 e) fun a ha o e=>sx _ _ ?_ e;obtain⟨i,hi,rfl⟩:=qh5 ha;exact Ep (?t7) hp ?U
theorem TA.made{H2:Hp}{L D:Addr}{i:Nat}[?a4](s2:Same H H2)[?aY](hL:H2 L=?x1 (?n7 i (?f D)))(hD:H2 D=?x1 (VI W (g i)))(e:∀r,r≠i->g r=f r):TA H2 L (as.set i D) n W g:=by
 refine⟨by rw[qi3,x.1],by rw[hL,List.map_set],fun j c ec=>?_⟩;rw[qr4]at ec;by_cases hj:i=j
 . subst hj;ext vX;exact hD
 . rw[?j hj]at ec;rw[e j ?oR];exact s2 _ _ (?cD j c ec)
theorem TA.two{i j:Nat}{D1 D2:Addr}[?a4][?aY](hj:j<n)(hij:?hY)(h':?zB r ((?n7 i (?f D1)).set j (?f D2)))(keep:?sA)(h1:?zB D1 (VI W (g i)))(h2:?zB D2 (VI W (g j)))(e:∀k,k≠i->k≠j->g k=f k):TA H' r (?pF) n W g:=by
 refine⟨by rw[qi3,qi3,x.1],by rw[h',List.map_set,List.map_set],fun k c ec=>?_⟩;rw[qr4,qi3]at ec;by_cases hkj:j=k
 . subst hkj;rw[?t,?o (by rw[x.1];exact hj)]at ec;cases ec;exact h2
 rw[?j hkj,qr4]at ec;by_cases hki:i=k
 . subst hki;ext vX;exact h1
 rw[?j hki]at ec;rw[e k (?x9 hki) (?x9 hkj)];exact keep c (qc6 ec) _ (?cD k c ec)
theorem HW{i j:Nat}{D1 D2 a:Addr}(h:a∈?pF):?jF\/a=D1\/a=D2:=by
 rcases qm7 h with h | h
 . rcases qm7 h with h | h
   . exact ?gN
   . exact ?L (?gN)
 . exact ?L (?fA)
theorem Jk{l i:Nat}(h:i<l):RD l (?m5:Int)=?c i:=by
 unfold RD;rw[?eP,?eP,qf5]
universe e9
def mNames:?aA Str:=["turn","blend","put_in","meet","shrink","shrink_row"]
structure LX(H:Hp)(C p r b:Addr)(sv:?dS V)[?aX][?M](N:?bX):Prop where
 ob:Jp fun dx fs=>?x4 C fs/\Ed (?x3 "rows" r) (?x3 "backs" b) (?aJ (?v8:Str)=sv) ((∀m∈mNames,?oW)) (fs.length<=10)
 rw:∃as,TA H r as n W s.1/\∀a∈as,?rD
 bk:∃bs,TA H b bs n n s.2/\∀a∈bs,?rD
 ne:r≠b
 nr:¬N r
 nb:¬N b
 nn:∀a,N a->?uO
theorem LX.keep{H H':Hp}[?i6][?iI][?iD](e:?aD):?qP:=by
 ext mI;exact⟨?pT,⟨as,?rU,a2⟩,⟨bs,?n3,b2⟩,?b7,x.nr,x.nb,fun a ha z=>x.nn a ha (e.free z)⟩
theorem LX.refs{H:Hp}[?i6][?iI][?iD]:p≠r/\p≠b:=by
 obtain⟨dx,fs,h1,_⟩:=x.ob;obtain⟨as,a1,_⟩:=x.rw;obtain⟨bs,b1,_⟩:=x.bk;exact⟨Ep h1 a1.2.1 ?U,Ep h1 b1.2.1 ?U⟩
def tnS(t:Tn)[?M]:?r:=(pJ t s.1,pJ (tnA t) s.2)
def VZ[?aX](f:Lat.Mat):Tn->Prop
 | .ad i j k=>i<n/\j<n/\?hY/\∀c,c<W->?hX k (f j c)
 | .mi i=>i<n
 | .sw _ _=>False
def Ut(r b:Addr)(H H':Hp):Prop:=∀x o,x≠r->x≠b->H x=?a0->H' x=?a0
theorem Ut.of{r b:Addr}{H H':Hp}[?iJ]:?gP:=fun _ _ _ _ e=>?j6
theorem Ut.trans{r b:Addr}{H H1 H2:Hp}(x:Ut r b H H1)(y:Ut r b H1 H2):Ut r b H H2:=fun a o n1 n2 e=>y a o n1 n2 (x a o n1 n2 e)
theorem Ut.l[?wC]:Ut r b H (upd H' r o):=?xY n1
theorem Ut.r[?wC]:Ut r b H (upd H' b o):=?xY n2
section
variable[?a3]
def Wv:Sp:=fun vs H Q _=>XU fun(r:Addr) (u:V) (as:?cU) ?c6 (f:Lat.Mat) (t:Tn)=>Nm (vs=[?f r,u]) (?uR) (Rep K H u (pA t)) (VZ n W f t) ?hI ?gZ (∀(D:Addr) (as':?cU) (H':Hp),?i1->?aD->TA H' D as' n W (pJ t f)->(∀a∈as',(?jF\/?k9)/\a≠D)->?nO)
def Lp[?cW]:Sp:=fun vs H Q _=>bZ fun(p dx C:Addr) (r b:V)=>B6 (vs=[?O,r,b]) ((C=CL\/C=CS)) (?x4 C []) (∀H',(∀fs,fs=?uA->H'=upd (upd H p (?V C dx (putF "rows" r []))) p (?V C dx fs)->?N))
def Jy[?a3]:Sp:=fun vs H Q _=>gQ fun(p:Addr) (u:V) (C r b:Addr) ?l2 ?c6 ?cB ?jW (t:Tn)=>GR (vs=[?O,u]) ((C=CL\/C=CS)) (?l0) (Rep K H u (pA t)) (VZ n W s.1 t) (VZ n n s.2 (tnA t)) ?hI ?gZ (∀(r' b':Addr) (H':Hp),?kF->?pU->?nY->LX H' C p r' b' sv n W (tnS t s) N->?N)
def U3:Sp:=fun vs H Q _=>∃A B:Int,vs=[?m A,?m B]/\0<A/\B≠0/\?o5/\?nE/\∀(L:Addr) (g a b:Int) (H':Hp),?aD->Dy K H' L [?m g,?m a,?m b]->?h5 A B g a b->?o6
def Lq[?a3]:Sp:=fun vs H Q _=>xW fun(p C r b:Addr) ?l2 (n W i j:Nat) (A B:Int) ?cB ?jW=>uM (vs=[?O,?hN,?m j,?m A,?m B]) ((C=CL\/C=CS)) (?l0) ?gQ (j<n) (?hY) ?hI ?gZ (0<A) (B≠0) (?o5) (?nE) (?iK) (∀(L:Addr) (g a c:Int) (H':Hp),?gP->?hW->Dy K H' L [?m g,?m a,?m c]->?h5 A B g a c->LX H' C p r b sv n W (?k8 i j a c (-(B / g)) (A / g) s) N->?o6)
universe e9
def Hds(W:Nat)[?a5](f m:Nat)(R:Lat.Mat):Prop:=∀j,f<=j->j<m->t j<W/\0<?aP/\?e9<L9
structure SX(CS:Addr)(H0 H:Hp)(p q:Addr)(M:?bX)[?aX][?a5](cnt:Nat)[?M]:Prop where
 ex:∃r b,?tZ/\?r5/\?tQ
 st:H q=?x1 (VI cnt fun i=>((t i:Nat):Int))
 same:?lV
 fp:?l9
 fq:?xG q
 mq:M q
 sm:n<=100/\W<=200/\cnt<=n
section
variable{CS:Addr}{H0 H H':Hp}{p q:Addr}{M:?bX}{n W cnt:Nat}[?aV]{s s':?r}
theorem SX.redo{H1:Hp}{r' b':Addr}[?mR](e:?jG)(sx:?fN p H1 H')(h1:H1 r'=none)(h2:H1 b'=none)(y:?yK r' b'):?tD:=by
 have s1:=?kE e;obtain⟨r,b,z,_⟩:=x.ex;obtain⟨dx,fs,hp,_⟩:=z.ob;exact⟨⟨r',b',y,s1.free h1,s1.free h2⟩,?yJ x.st (e _ _ x.st),sx.same s1 x.fp,x.fp,x.fq,x.mq,?bZ⟩
theorem SX.redo2{r b:Addr}[?mR](lx:?tZ)(f1:?r5)(f2:?tQ)(fr:?gP)(_kp:?hW)(y:?yK r b):?tD :=
 ⟨⟨r,b,y,f1,f2⟩,fr _ _ (fun z=>?eZ ?sV) (fun z=>?fO ?sV) x.st,?y0 f1 f2,x.fp,x.fq,x.mq,?bZ⟩
theorem SX.re[?mR](h:s=s'):?wU cnt s':=h▸x
universe e9
theorem insAt_get{α:Type}(k:Nat)(y:α)(xs:?e8)(h:k<=xs.length)(j:Nat):(?pR)[j]?=if j<k then xs[j]? else if j=k then ?c y else xs[j-1]?:=by
 unfold insAt;by_cases h1:j<k
 . rw[?b1,qd1 (by rw[qc4];omega),ql9,?b1]
 . rw[?bG,qe0 (by rw[qc4];omega),qc4,Nat.min_eq_left h];by_cases h2:j=k
   . rw[?cO,h2,qj0];rfl
   . rw[?bP];obtain⟨e,rfl⟩:∃e,j=k+1+e:=⟨j-?R,O9m⟩
     rw[show k+1+e-k=e+1 by omega,List.getElem?_cons_succ,qv2]
     congr 1
     omega
theorem l9{α:Type}{xs:?e8}{i s:Nat}{y:α}(hi:?y8 xs y)(hs:s<=i)(j:Nat):(?cJ s y (xs.eraseIdx i))[j]?=xs[Lat.mvI i s j]?:=by
 have hl:i<xs.length:=?qW;rw[?sX _ _ _ (by rw[qi6 hl];omega)];unfold Lat.mvI;by_cases h1:j<s
 . rw[?b1,?b1,List.getElem?_eraseIdx,?eP]
 . rw[?bG,?bG];by_cases h2:j=s
   . rw[?cO,?cO,hi]
   . rw[?bP,?bP,List.getElem?_eraseIdx];by_cases h3:j<=i
     . rw[?eP,?o h3]
     . rw[?v,?j h3]
       congr 1
       omega
theorem v7{α β:Type}(g:α->β)(k:Nat)(y:α)(xs:?e8):(?pR).map g=?cJ k (g y) (?q3):=by
 unfold insAt;rw[qb1,qd5,qp5,qp6]
theorem T3{α β:Type}(g:α->β):∀(xs:?e8) (i:Nat),(xs.eraseIdx i).map g=(?q3).eraseIdx i
 | [],_=>rfl
 | _::_,0=>rfl
 | x::xs,i+1=>?sW (g x::·) (T3 g xs i)
theorem TA.move{H H1:Hp}{r:Addr}{as:?cU}{n W i s:Nat}{f:Lat.Mat}{ci:Addr}[?a4][?aY](hs:s<=i)(kE:?y8 as ci)(h1:H1 r=?x1 (?cJ s (?f ci) ((?dZ).eraseIdx i)))(h2:∀a∈as,H1 a=H a) :
 TA H1 r (?sY) n W (Lat.moveR f i s)/\?uB:=by
 have mem:?uB:=fun a ha=>by
  obtain⟨j,hj⟩:=qh8 ha;rw[?vE]at hj;exact qc6 hj
 refine⟨⟨?_,?_,fun j c e=>?_⟩,mem⟩
 . unfold insAt;rw[qc0,qc8,qc4,qi5,qi6 (by rw[x.1];exact hi),x.1];omega
 . rw[h1,v7,T3]
 . rw[?vE]at e;rw[h2 c (qc6 e),Lat.move_row];exact ?cD _ _ e
theorem EU{i s st:Nat}[?aV](hs:s<=i):?cJ s (?cC ((st:Nat):Int)) (VI i fun k=>((t k:Nat):Int))=VI ?p fun k=>((?o3 t s st k:Nat):Int):=by
 apply qo6;intro j;rw[?sX _ _ _ (by rw[Bq];exact hs)];by_cases hj:j<i+1
 . rw[Ch hj];unfold Lat.insT;by_cases h1:j<s
   . rw[?b1,?b1,?fP]
   . rw[?bG,?bG];by_cases h2:j=s
     . rw[?cO,?cO]
     . rw[?bP,?bP,?fP]
 . rw[?v,?v,?f4,?f4]
theorem Wz[?a5](p f:Nat)[?M]:∀d l,l≠p->(?c9 t p f s d).1 l=s.1 l
 | 0,_,_=>rfl
 | d+1,l,h=>by
   rw[Lat.shrS];show Lat.addR _ _ _ _ l=_;rw[Lat.addR_row_ne h];exact Wz t p f s d l h
def AF[?aX][?a5](i f m:Nat)[?M]:Prop:=∀d,d<=m-f->BO n W (?c9 t i f s d)
def gR[?aX][?a5](i:Nat)[?M]:Prop:=∀d,d<=i->Hds W t ?iQ ?p (?qD).1/\AF n W t (i-d) ?iQ ?p (?qD)
def Ab0[?a5](spot i:Nat)(k:Int)[?M]:?r:=?c9 t i ?F (?d6 i ?d (-k) s) ?jC
def Xw[?mS][?M]:?r:=?k8 ?d i a b (-(B / g)) (A / g) s
def MU[?a5][?mS][?M]:?r:=?c9 t ?d ?F (Xw ?d i A B g a b s) ?jC
def Aa9[?a5][?mS][?M]:?r:=?c9 t i ?F (MU t ?d i A B g a b s) ?jC
structure oK[?aX][?a5](spot i:Nat)[?M](Nx:?dD):Prop where
 bo:?iK
 hd:Hds W t ?d i s.1
 oth:?d3≠0/\(?d3).natAbs<L9
 add:∀k,?d3=k*?lE->AF n W t i ?F i (?d6 i ?d (-k) s)/\Nx (Ab0 t ?d i k s)
 ble:∀g a b,?h5 ?g7 ?gC g a b->AF n W t ?d ?F i (Xw ?d i ?g7 ?gC g a b s)/\AF n W t i ?F i (MU t ?d i ?g7 ?gC g a b s)/\Nx (Aa9 t ?d i ?g7 ?gC g a b s)
structure xP(n W i:Nat)[?a5](s0:?r)(I:?uK):Prop where
 start:I 0 s0
 ok:∀spot s,?aT->?lT->∃c,c<W/\?eI≠0
 skip:∀spot s,?h1->?lT->(∀c,c<=?dI->?eI=0)->I ?F s
 meet:∀spot s,?h1->?lT->(∀c,c<?dI->?eI=0)->?d3≠0->oK n W t ?d i s (I ?F)
def Hi(W:Nat)(u:?h)(st:Nat):Prop:=(∀c,c<st->u c=0)/\u st≠0/\st<W
theorem Hi.one{W W':Nat}{u:?h}{a b:Nat}(h:Hi W u a)(k:Hi W' u b):a=b:=by
 rcases qk5 a b with e | e | e
 . exact ?b9 (k.1 a e) h.2.1
 . exact e
 . exact ?b9 (h.1 b e) k.2.1
theorem Hi.ex{W:Nat}{u:?h}(h:∃c,c<W/\u c≠0):∃st,?tG:=by
 obtain⟨c,hc,h0⟩:=h
 induction c using Nat.strongRecOn with
 | _ c ih =>
   by_cases z:∃d,d<c/\u d≠0
   . obtain⟨d,hd,hd0⟩:=z;exact ih d hd O9m hd0
   . refine⟨c,fun d hd=>?_,h0,hc⟩;exact qg2 fun k=>z ⟨d,hd,k⟩
structure EG[?aX](J:?mV):Prop where
 step:∀i t s,i<n->J i t s->∃I,?s0/\∀spot st s',?aT->?l4->?iR->(?fF) →
  gR n W ?g8 i (?yF i)/\J ?p ?g8 (?lQ ?g8 i (?yF i) ?p)
theorem GO{w n:Nat}{f g:?h}{h:?h}(h1:∀c,c<w->h c=f c)(h2:∀a,a<n->h ?z=g a):VI w f++VI n g=VI ?k h:=by
 apply qo6;intro j;by_cases e1:j<w
 . rw[qd1 (by rw[Bq];exact e1),Ch e1,?fP,h1 j e1]
 . rw[qe0 ?cF,Bq];by_cases e2:j<w+n
   . rw[?fP,Ch e2,←h2 (j-w) ?e,show w+(j-w)=j by omega]
   . ext w3
theorem sI{w n:Nat}[?d0]:Jc (VI ?k f) ?gD ?G=VI n ?t6:=by
 ext vN;have s1:?lO ?k 0 ?gD=w:=?nG
 unfold Jc;rw[Bq,s1,←e,List.drop_append_of_le_length ?cF,List.drop_of_length_le ?cF,qn8];apply ql8;rw[Bq];simp only[HT.sIx];omega
theorem Ah1{w n:Nat}[?d0]:Jc (VI ?k f) ?G ?gD=VI w f:=by
 ext vN;have s1:?lO ?k ?k ?gD=w:=?nG
 have s2:?lO ?k 0 ?G=0:=rfl;unfold Jc;rw[Bq,s1,s2,List.drop_zero,qw2,←e,qp1 ?cF,ql8 ?cF]
section
variable[?a3]
def U2[?a3]:Sp:=fun vs H Q _=>sM fun ?gK (L r b:Addr) ?l2 ?jW ?c8 (T P PB:Lat.Mat) (J:?mV)=>GR (vs=[v,?m w,?f L]) (?wY H T) (LX H CL L r b sv n n ?k2 N) (n<=60) (w<=60) (EG n ?k J) ((∀t,J 0 t (?lB w T P,PB))) ((∀i t s,J i t s->?f8)) (∀(tp D L' r' b':Addr) (as:?cU) [?a5] [?M] (H':Hp),?aD->J n t s->Dy K H' tp [?f D,?f L']->TA H' D as n w s.1->LX H' CL L' r' b' ?G n n (fun x a=>s.1 x ?z,s.2) N->?i1->H L'=none->?pU->?nY->?o2)
def Rz:Sp:=fun vs H Q _=>Qm fun(c:Addr) (W st:Nat) (u:?h)=>Ed (vs=[?f c]) (SqL K H c (VI W u)) (?tG) ?gZ (Q (?m (st:Int)) H)
def Jx[?cW]:Sp:=fun vs H Q _=>gQ fun ?aL ?eX ?hG ?c6 ?hZ (cnt:Nat) ?cB (i f:Nat)=>BZ (vs=[?O,?hN,?m f]) (?nW) ?gQ (f<=cnt) ((i<f\/cnt<=i)) (Hds W t f cnt s.1) (AF n W t i f cnt s) (∀H',?wZ cnt (?c9 t i f s (cnt-f))->?N)
def Wt[?cW]:Sp:=fun vs H Q _=>Ex9 fun ?aL ?eX ?hG ?c6 ?hZ ?m5 ?cB=>B6 ?gY (?wU ?p s) (gR n W t i s) (∀H',?wZ ?p (?lQ t i s ?p)->?N)
def CI[?cW]:Sp:=fun vs H Q _=>gQ fun ?aL ?eX ?hG ?c6 ?hZ (?d i:Nat) ?cB (Nx:?dD)=>Kh (vs=[?O,?m ?d,?hN]) (?wU i s) (?h1) ?gQ (oK n W t ?d i s Nx) (∀H' s',?wZ i s'->Nx s'->?N)
def Wu[?cW]:Sp:=fun vs H Q _=>LG fun ?aL ?eX ?hG ?c6 ?hZ ?m5 ?cB (I:?uK)=>Kh (vs=[?O,?hN]) (?wU i s) ?gQ (?s0) ((∀j,j<i->t j<W)) (∀H' spot st s',?aT->?l4->?iR->(?fF)->SX CS H0 H' p q M n W ?g8 ?p (?yF i)->?N)
def cJ[?cW]:Sp:=fun vs H Q _=>Qm fun ?n6 (r b:V)=>Ef (vs=[?O,r,b]) (?x4 CS []) (∀q H' fs,H q=none->fs=putF ?v8 (?f q) (?uA)->?kF->?zB q []->H' p=?c (?V CS dx fs)->?N)
universe e9
universe Hb
namespace L2
open PySem PySem.Spec PyProof.Rows PySem.SeqAt
section
variable{X:Cx}{n:Nat}{K:W.Frag}
theorem kY(hc:?oK):?wO X.K:=by
 intro Ac s σ H xs us Q I r h;obtain⟨p,bs,rfl,hq,q⟩:=h;obtain⟨u,rfl,ru⟩:=P6 r;cases ru;obtain⟨its,rv,pl,hz⟩:=I.list hq;have hh:X.A.handled=none:=I.ok.hd hc
 have rel:∀(i:Nat) (v:Value),?y8 its.toArray v->∃b,?gL=?c b/\v=.bool b:=fun i v e=>by
  have e':?y8 its v:=?sU
  have hlt:i<its.length:=(?jY e').1;have l1:=rv.length;rw[qa2]at l1;have hb:?gL=?c (bs[i]'(O9m)):=by simp<;>omega
  obtain⟨u,hu,ru⟩:=rv.get (i:=i) (x:=V.bl (bs[i]'(O9m))) (by rw[qa9,hb];rfl);rw[e']at hu;cases hu;exact⟨_,hb,ru⟩
 refine call_any_walk (qs9 pl.isList ?_);refine⟨?a1,[s.heap.objs.size,p],[s.heap.objs.size],?qA,_,_,?s8,rfl,Walks.list (show X.A.in1.handled=none from hh) ?a1 p ?_ its.toArray,⟨⟨_,?kH,rfl,rfl⟩,?_⟩,?_,fun h' tk k=>?_⟩
 . obtain⟨o,_,ho,_⟩:=pl;exact qc5 (qb2 ho)
 . exact pl.isList.at fun o e=>qa5 _ e
 . intro i v s' Q' E' hv hQ;obtain⟨b,hb,rfl⟩:=rel i v hv;dsimp only at hQ;rw[hb]at hQ;exact qj3 hQ
 . have e:(?k6 ?qA).any (?s8)=bs.any id:=by
    have l1:=rv.length;rw[qa2]at l1;rw[qb8,←l1];rw[qm0,qm8,qm8];constructor
    . rintro ⟨i,hi,hx⟩;have hlt:=qd8.mp hi;have hb:?gL=?c bs[i]:=?hE
      rw[hb]at hx;exact⟨_,qe8 hlt,hx⟩
    . rintro ⟨b,hb,hx⟩;obtain⟨i,hi⟩:=qh8 hb;refine⟨i,qd8.mpr ?qW,?_⟩;rw[hi];exact hx
   rw[e];have I1:Bk X Ac σ H { s with heap:=h',toks:=tk }:=I.kept (fun b o e=>k b o (by simp;exact qc5 (qb2 e)) (qa5 _ e));exact⟨.bl (bs.any id),H,I1,rfl,q⟩
theorem aB:bootBuiltins "any"=?c (.builtin "any"):=?qN
theorem X2(hc:?oK)(hK:X.K=K:=by rfl):?wO K:=by subst hK;exact kY hc
universe e9
universe L2
namespace Hb
open PySem L2
def uQ:?aA Str:=["straighten","step","put_in_order","share"]
section
variable{K:W.Frag}{H H':Hp}
theorem X9{nm a:Addr}(h:a≠nm):?nL=H a:=So h
theorem KA{nm a:Addr}(h:a=nm):?nL=none:=X8 h
theorem SS[?iA]{a:Addr}{xs:?dY}(h:SqL K H a xs)[?i8]:SqL K H' a xs:=by
 rcases h with(h|⟨o,h⟩) | h
 . ext vV
 . ext vT
 . exact ?fA
theorem gZ[?iA][?wH][?i8]:Dy K H' a xs:=by
 rcases h with(h|⟨o,h⟩) | h
 . ext vV
 . ext vT
 . exact ?fA
theorem zL{nm:Addr}{ys:?dY}{o:HO}[?wH](hn:H nm=?x1 ys):Dy K (upd H nm o) a xs:=by
 rcases h with(h|⟨u,h⟩) | h
 . exact ?u (?u (?rZ))
 . exact ?u (?L ⟨u,?rZ⟩)
 . exact ?fA
theorem lT{m i:Nat}[?d0]{x:Int}(hi:i<m):(VI m f).set i (?m x)=(Io m fun k=>if k=i then x else f k).map ?cC:=by
 show _=VI m _;apply qo6;intro j;rw[qr4,Bq];by_cases hj:i=j
 . subst hj;rw[?t,?o hi,Ch hi,?t]
 . rw[?j hj];by_cases h2:j<m
   . rw[Ch h2,Ch h2,?j ?oR]
   . ext w3
theorem A26[?iA]{v:V}[?aE]{f:?aU}(h:?wY H f)[?i8]:?wY H' f:=by
 obtain⟨a,us,rfl,hq,hl,hr⟩:=Hf h;refine DX (SS hq hp sx) hl ?hU;have e:=qa0 (l:=us) (i:=i) O9m;obtain⟨_,b,eb,hb⟩:=hr i _ e;exact⟨b,by rw[e,eb],SS hb hp sx⟩
universe e9
theorem LX.x{H H':Hp}[?i6][?iI]{q D dx:Addr}{fs:?aA (Str × V)}[?iD](hq:H q=?c (?V D dx fs))(hqp:q≠p)(sx:?fN q H H')(kp:?hW):?qP:=by
 ext mI;exact⟨⟨dx,fs,sx _ _ hqp.symm h1,h2⟩,⟨as,a1.x hq sx,a2⟩,⟨bs,b1.x hq sx,b2⟩,?b7,x.nr,x.nb,fun a ha=>kp a (x.nn a ha)⟩
theorem LX.more{H H':Hp}[?i6]{N N':?bX}[?iD](e:?aD)(h:∀a,N' a->N a\/?k9)(hn:∀a,N' a->H' a≠none):?yA H' N':=by
 ext mI;refine⟨?pT,⟨as,?rU,?yP ?m3 ?m3⟩,⟨bs,?n3,?yP ?jS ?jS⟩,?b7,?eH,?eH,hn⟩
 . exact ?oY ?gM (a1.there.2 a ha)
 . exact ?oY ?u3 (b1.there.2 a ha)
 . exact(h r z).elim x.nr a1.there.1
 . exact(h b z).elim x.nb b1.there.1
structure WX[?aW](CL CW:Addr)(H0 H:Hp)(p L R nm:Addr)[?H](M:?hF)[?cY](ns:?cT):Prop where
 ob:Rs fun tv dx fs=>?x4 CW fs/\BZ (?aJ ("table":Str)=?c tv) (?aJ ("width":Str)=?c (?kW)) (?x3 "left" L) (?x3 "right" R) (?x3 "numbers" nm) ((∀m∈uQ,?oW)) (fs.length<=10) (∀M',M=?c M'->Rep K (Sq H ?oG) tv (dT n w M'))
 li:Qm fun r1 b1 r2 b2=>?p8/\?vA/\B6 (?xG r1) (?xG b1) (?xG r2) (?xG b2)
 nu:H nm=?x1 (ns.map ?cC)
 same:?lV
 fr:?l9/\?xG L/\?xG R/\?xG nm
 ne:p≠L/\p≠R/\L≠R
 sm:n<=60/\w<=60
def lI(m:Nat)(M:Lat.Mat):?cT:=((?k6 m).map fun i=>?f3).filter fun x=>?Q (x≠0)
theorem WX.keep[?eR]{H0 H H':Hp}[?mL][?i7][?iJ]:?wR H' M:=by
 ext vM;exact⟨⟨tv,dx,fs,?r8,l1,l2,l3,l4,l5,l6,l7,?zD (LV s)⟩,⟨r1,b1,r2,b2,lx.keep s,?rS,f⟩,?q7,?kE s,x.fr,?b7,?bZ⟩
theorem WX.num[?eR]{H0 H:Hp}[?mL]{ns ns':?cT}(x:?p9):WX K CL CW H0 (?yW H) p L R nm n w M l r ns':=by
 ext vM;have hpn:p≠nm:=Ep hp ?cS ?U
 have go:∀{q r b:Addr}{m:Nat}{s:?r}[?iI],LX H CL q r b ?G m m s N->N nm->LX (?yW H) CL q r b ?G m m s N:=fun {q r b m s N} y hN=>by
  obtain⟨d2,f2,e1,e2⟩:=y.ob;obtain⟨as,a1,a2⟩:=y.rw;obtain⟨bs,b1,b2⟩:=y.bk;refine⟨⟨d2,f2,by rw[Al (Ep e1 ?cS ?U)];exact e1,e2⟩,⟨as,a1.put (fun z=>y.nr ?hV) fun a ha z=>?gM ?hV,a2⟩,⟨bs,b1.put (fun z=>y.nb ?hV) fun a ha z=>?u3 ?hV,b2⟩,y.ne,y.nr,y.nb,fun a ha z=>?_⟩;by_cases e:a=nm
  . rw[e,Ab]at z;cases z
  . rw[Al e]at z;exact y.nn a ha z
 refine⟨⟨tv,dx,fs,by rw[Al hpn];exact hp,l1,l2,l3,l4,l5,l6,l7,?zD (w9 fun a o n e=>?yE n)⟩,⟨r1,b1,r2,b2,go lx (?u rfl),go ly rfl,f⟩,Ab,fun a o e=>by rw[Al (Ap e x.fr.2.2.2)];exact ?jK,x.fr,?b7,?bZ⟩
theorem WX.drop[?eR]{H0 H:Hp}[?mL][?i7]:?wR H ?G:=by
 ext mM;exact⟨⟨tv,dx,fs,hp,l1,l2,l3,l4,l5,l6,l7,?kP⟩,x.li,?cS,x.same,x.fr,?b7,?bZ⟩
theorem WX.left[?eR]{H0 H H1 H':Hp}{p L R nm r1 b1 r2 b2 r' b':Addr}[?aE]{M:?hF}{l r l':?r}[?i7](lx:?p8)(ly:?vA)[?wA]
 (s:?jG) (sx:?fN L H1 H') (h1:?xM H1 r') (h2:?xM H1 b') (y:LX H' CL L r' b' ?b4 n n l' ?hQ):WX K CL CW H0 H' p L R nm n w ?b4 l' r ns/\?xF H' r:=by
 ext mM;obtain⟨dl,fl,hL,_⟩:=lx.ob;obtain⟨dl',fl',hL',_⟩:=y.ob;obtain⟨n1,n2,n3⟩:=x.ne;have kp:Kp H1 H':=Kp.x sx hL';have lz:=(?rS).x (s _ _ hL) n3 sx kp;have s0:=?kE s;exact⟨⟨⟨tv,dx,fs,sx _ _ n1 (?r8),l1,l2,l3,l4,l5,l6,l7,?kP⟩,⟨r',b',r2,b2,y,lz,s0.free h1,s0.free h2,f3,f4⟩,sx _ _ (Ep ?cS hL ?U) (?q7),sx.same s0 x.fr.2.1,x.fr,?b7,?bZ⟩,lz⟩
theorem WX.right[?eR]{H0 H H':Hp}{p L R nm r1 b1 r2 b2:Addr}[?aE]{M:?hF}{l r r':?r}[?i7](lx:?xK H ?b4)(ly:?xF H r)(f1:?xM H0 r1)(f2:?xM H0 b1)[?wA]
 (fr:Ut r2 b2 H H') (kp:?hW) (y:?xF H' r'):WX K CL CW H0 H' p L R nm n w ?b4 l r' ns/\?uS:=by
 ext mM;obtain⟨dl,fl,hL,hL2⟩:=lx.ob;obtain⟨as,a1,a2⟩:=lx.rw;obtain⟨bs,b3,b4⟩:=lx.bk;obtain⟨GL,c1,_⟩:=ly.rw;obtain⟨bs2,c2,_⟩:=ly.bk;have no:∀a C d f,H a=?c (?V C d f)->H' a=?c (?V C d f):=fun a C d f e=>fr _ _ (Ep e c1.2.1 ?U) (Ep e c2.2.1 ?U) e
 have lz:?uS:=⟨⟨dl,fl,no _ _ _ _ hL,hL2⟩,⟨as,a1.keep (fun o e=>?wP ?eZ ?eZ) fun a ha o e=>?wP ?gM ?gM,a2⟩,
  ⟨bs,b3.keep (fun o e=>?wP ?fO ?fO) fun a ha o e=>?wP ?n5 ?n5,b4⟩,lx.ne,?eZ,?fO,fun a ha=>kp a (lx.nn a ha)⟩
 exact⟨⟨⟨tv,dx,fs,no _ _ _ _ hp,l1,l2,l3,l4,l5,l6,l7,?kP⟩,⟨r1,b1,r2,b2,lz,y,f1,f2,f3,f4⟩,fr _ _ (?x9 ly.nr) (?x9 ly.nb) ?cS,?y0 f3 f4,x.fr,?b7,?bZ⟩,lz⟩
theorem Os(i:Nat)(M:Lat.Mat):lI ?p M=if ?f3=0 then ?m1 else ?m1++[?f3]:=by
 unfold lI;rw[qk6,qb1,qh4];by_cases h:?f3=0<;>simp[h]
theorem QN(i:Nat)(M:Lat.Mat):?z2 ?m1 i:=by
 unfold lI;refine qa6 (qg6 _ _) ?_;rw[qa2,qi8];ext Z
structure Ro[?H](M:Lat.Mat)[?cY](Nx:?k0):Prop where
 ex:∃J1,EG n ?k J1/\(∀t,J1 0 t (?lB w M l.1,l.2))/\(∀i t s,J1 i t s->?f8)/\∀t1 s1,J1 n t1 s1 →
  ∃J2,EG w ?aM J2/\(∀t,J2 0 t (?lB n (?yO i) r.1,r.2))/\(∀i t s,J2 i t s->∀j,j<i->t j<n+w)/\∀t2 s2,J2 w t2 s2 →
    Nx (fun i j=>s2.1 j i) (fun x a=>s1.1 x ?z,s1.2) (fun x a=>s2.1 x (n+a),s2.2)
section
variable[?a3]
def Nq:Sp:=fun vs H Q _=>Qm fun ?gK ?c8 ?f6=>Kh (vs=[v]) (?wY H M) ?hI (w<=1000) ((?fY->∀H',?aD->Q (.bl true) H')) ((¬?fY->∀H',?aD->Q (.bl false) H'))
def CK[?a3]:Sp:=fun vs H Q _=>XU fun ?aL ?n6 ?gK ?c8 ?f6=>BZ (vs=[?O,v,?kW]) (?lV) (?l9) (?x4 CW []) (?wY H0 M) (n<=60) (w<=60) (∀L R nm H',WX K CL CW H0 H' p L R nm n w ?k3 ?dO ?dO []->?N)
def CJ[?a3]:Sp:=fun vs H Q _=>sM fun ?aL ?hM ?c8 ?f6 ?g4 (ns:?cT) (Nx:?k0)=>B6 ?gY (?wR H ?k3) (?yH Nx) (∀L' R' M' l' r' H',Nx M' l' r'->WX K CL CW H0 H' p L' R' nm n w (?c M') l' r' ns->?N)
def N9[?a3]:Sp:=fun vs H Q _=>gQ fun ?aL ?hM ?c8 ?f6 ?g4 (U:?uC)=>Ed ?gY (WX K CL CW H0 H p L R nm n w ?k3 l r []) (?yH (fun M' l' r'=>∃m,?iZ)) ((∀m M' l' r',?iZ->¬?uY->Ro n w M' l' r' (fun M2 l2 r2=>∃m',m'<m/\U m' M2 l2 r2))) (∀L' R' m M' l' r' H',?iZ->?uY->WX K CL CW H0 H' p L' R' nm n w (?c M') l' r' (lI ?d1 M')->?N)
structure BY[?H](i j:Nat)[?Y][?cY]:Prop where
 p1:0<f i/\?rH<L9
 p2:f j≠0/\?sS<L9
 bl:BO n n l/\BO n n (?d6 i j 1 l)
 br:BO w w r
def VA(i j:Nat)(g:Int)[?Y]:?h:=Lat.put2 f i j g (?aK*f j)
def XY(i j:Nat)(g b:Int)[?Y](l:?r):?r:=?d6 j i (-(b*f j / g)) (?d6 i j 1 l)
def pP(i j:Nat)(g a b:Int)[?Y](r:?r):?r:=?k8 i j a b (-(f j / g)) (?aK) r
def j4[?a3]:Sp:=fun vs H Q _=>xW fun ?aL ?hM (n w m i j:Nat) ?g4 (f:?h)=>GR (vs=[?O,?m (i:Int),?m (j:Int)]) (?xI l) (i<j) (j<m) (m<=n) (m<=w) (?lY) ((?kL->Q .non H)) (∀g a b H',?iL->WX K CL CW H0 H' p L R nm n w ?G (XY i j g b f l) (?xX b) (Io m (VA i j g f))->?N)
def j5[?a3]:Sp:=fun vs H Q _=>sM fun ?aL ?hM (n w m:Nat) ?g4 (f:?h) (V:?fZ)=>Nm ?gY (?xI l) (m<=n) (m<=w) (V 0 f l r) ((∀d i j f l r,V d f l r->d<5*m+m*m->i<j->j<m->?lY/\(?kL->V ?aH f l r)/\∀g a b,?iL->V ?aH (VA i j g f) (XY i j g b f l) (?xX b))) (∀d f' l' r' H',V d f' l' r'->?q6 m m f'->WX K CL CW H0 H' p L R nm n w ?G l' r' (Io m f')->?N)
universe e9
structure Zg[?H](A:Lat.Mat)(Fin:?fZ):Prop where
 ex:∃(U:?uC) (Y:Nat->?fZ),Ro n w A ?dO ?dO (fun M l r=>∃m,?kJ) ∧
  (∀m M l r,?kJ->¬?fY->?yH (fun M' l' r'=>∃m',m'<m/\U m' M' l' r')) ∧
  (∀m M l r,?kJ->?fY->∃k f,lI ?d1 M=Io k f/\k<=n/\k<=w/\Y k 0 f l r) ∧
  (∀k d i j f l r,?v7->d<?m9->i<j->j<k->?lY/\(?kL->Y k ?aH f l r)/\∀g a b,?iL->Y k ?aH (VA i j g f) (XY i j g b f l) (?xX b)) ∧
  ∀k d f l r,?v7->?rK
structure Zf[?aW](H H':Hp)[?mU](n w k:Nat)[?Y][?cY]:Prop where
 same:?aD
 tup:Dy K H' tp ?s1
 num:?zB nm ?o8
 left:?yU H'
 lback:?xR H'
 right:?xQ H'
 rback:?yV H'
 new:∀a,a=nm\/a=r1\/a=D1\/a=D2\/a=b2->?k9/\∃us,?zB a us/\us.length<=60
section
variable[?aW]
def R6:Sp:=fun vs H Q _=>bZ fun ?gK ?c8 (A:Lat.Mat) (Fin:?fZ)=>Kh (vs=[v,?kW]) (?wY H A) (n<=40) (w<=60) (Zg n w A Fin) (∀[?mU] (k:Nat) [?Y] [?cY] (H':Hp),?rK->?q6 k k f->k<=n->k<=w->?pH->?o2)
universe e9
universe Hb
namespace Hb
open Lat
section
variable[?eS]
theorem BB.bo{n W β:Nat}[?eU](h:?q0)(hb:β<=big):?iK:=⟨(?qR).1,(?qR).2.1⟩
theorem cF{n W w i:Nat}[?eV]{R0 B0:Mat}[?aV]{π b β:Nat}[?wL](hW:W=w+n)(dl:Fb n w R0 B0)(bb:?wS β (R0,B0))(hb:?m6)(hπ:?dV)(yG:?sJ)
 (hG:∀spot (s:?x) st,?aT->?sE->Hi W (s.1 i) st->G st)
 (hd:∀t1 Y R1 B1 R2 B2,SK n W w i G R0 B0 t1 Y R1 B1->N2 n W w i R1 B1 t1 0 R2 B2->∀j,j<=i->(R2 j (t1 j)).natAbs<L9) :
 ∃I,xP n W i t (R0,B0) I/\∀spot st s',?aT->?l4->?iR->(?fF) →
   gR n W ?a7 i (?cM)/\G st/\SK n W w i G R0 B0 ?a7 (?x5 i) (?cM).1 (?cM).2 ∧
   N2 n W w i (?cM).1 (?cM).2 ?a7 0 (?kG).1 (?kG).2 ∧
   ?wS (?eM) (?kG):=by
 have hi:=H.hi
 have uB:∀spot,?aT->?f7<=?fK:=fun spot hs=>by
  unfold Fr;exact qa6 (qb4 _ hs) ?eE
 refine⟨fun spot s=>?sE/\?wS (β+?f7) s,⟨⟨Dj.start H,by rw[Nat.zero_mul];exact bb⟩,?_,?_,?_⟩,?_⟩
 . rintro spot s _ ⟨p,_⟩;obtain⟨c,hc,h0⟩:=(p.good.dual dl).row hi;exact⟨w+c,O9m,h0⟩
 . rintro spot s hs ⟨p,q⟩ hz;refine⟨p.skip hz,q.mono ?_⟩;rw[qf4];omega
 . rintro spot s hs ⟨p,q⟩ hz h0;have IC:=uB ?F hs;rw[qf4,qf3]at IC;have en:β+?F*?cK=β+?f7+?cK:=by rw[qf4,qf3];omega
   have lA:(?lE).natAbs<=?D:=by rw[p.old ?d _ ?l hs];exact H.hd ?d hs
   have lB:=p.pv ?d ?l hs;refine⟨?aR q O9m,?yY ⟨H.lt j hj2,p.pos j hj2,tL (π:=π) ?_ O9m⟩,⟨h0,tL lB O9m⟩,?hH,fun g a b' sh=>?_⟩
   . rw[p.old j _ hj1 hj2];exact H.hd j hj2
   . obtain⟨m1,m2,m3⟩:=p.meetAdd H hs hz hk q;refine⟨?nC,m1,?_⟩;rw[en];exact m3 _ O9m
   . obtain⟨m1,m2,m3,m4⟩:=p.meetBlend H hs hz (?tE (p.pos ?d hs) lA lB) q;refine⟨?nC,?yZ m4,m1,?_⟩;rw[en];exact m4 _ O9m
 . rintro spot st s' hs ⟨p,q⟩ hB hex;have hGs:=hG ?d s' st hs p hB;obtain⟨e1,e2,e3,e4,e5⟩:=PY H p hs hB.1 hB.2.1 hB.2.2 hGs yG hex q;refine⟨fun d hd'=>⟨?yY ?_,fun m hm=>?aR (e5 d hd' m O9m) hb⟩,hGs,e1,e2,e4 _ ?l⟩;obtain⟨dn,_,_⟩:=Yj e1 hi (e3.mono (qu5 (uB i ?l) β)) d O9m;have hh:=hd _ _ _ _ _ _ e1 e2 j O9m;rw[e2.hd j ?e]at hh;have hx:=dn.hd j O9m;refine⟨e1.lt j O9m,(dn.s0).pos j O9m,?_⟩;rw[hx];exact hh
universe e9
noncomputable abbrev JF[?H](M:Mat):?qM:=fun i t s=>Dq n ?k w i ?e3 M one t s.1 s.2
theorem Va{n w b0 D π b β:Nat}{M:Mat}(hM:∀r c,r<n->?bU->?tX)(dets:N3 n ?e3 M D)(h1:?f5)(h2:?o7)(h3:?fJ)[?wF](hbig:?n9)(hπ:?dV)(dl:Fb n w M one) :
 EG n ?k (JF n w M):=by
 refine ?nU;have iD:?l7:=qa6 (qb4 _ (qd4 hi)) h2;have H:=kI hM ?a8 hJ hi h1 iD h3 h4;have bb:BB n ?k ?dE 0 β (s.1,s.2):=Ri hM ?a8 (fun k a=>rfl) hJ (qd4 hi) iD h4 hβ hβ2
 obtain⟨I,P,e⟩:=cF H rfl (hJ.good.dual dl) bb (hbig i hi) hπ hJ.pg (fun _ _ _ _ _ hB=>hB.2.2) fun t1 Y R1 B1 R2 B2 I1 D1 j hj=>by
  have:=?xW hJ.next (show i+1<=n from hi);exact tL (qa6 ?W h1) O9m
 refine⟨I,P,?tA⟩;obtain⟨e1,_,e3,e4,_⟩:=e ?d st s' hs hI hB hex;exact⟨e1,hJ.next e3 e4⟩
theorem JF.lt[?aE]{M:Mat}:∀i t s,JF n w M i t s->?f8:=fun _ _ _ h j hj=>?tF
def JL(n w r:Nat)(M B0:Mat)(kt:?g)(hd:?h)(π b η β:Nat):?qM:=fun i t s =>
 (i<=r/\?x0 i ?bJ/\?oV) ∨
 (r<=i/\?x0 i ?e3/\?oB)
theorem JL.lt{n w r:Nat}{M B0:Mat}[?cX]{π b η β:Nat}:∀i t s,?y6 i->?f8:=fun _ _ _ h j hj=>by
 rcases h with⟨_,h,_⟩|⟨_,h,_⟩<;>exact h.st.st.lt j hj
theorem U6{n w r E π b η β:Nat}{e:Int}{T P PB:Mat}[?cX][?eT](he0:0<e)[?i9][?wM][?wG]
 (hβ:?lR) (hbig:β+?d2<=big) (hE:E<=?D) [?iG] (hb:n*E<=?E) (hπb:?gH) (hπ:?dV) (hη9:η<=8990) :
 EG n ?k (JL n w r ?C PB kt hd π b η β):=by
 have rn:=g.sq.rn;have dets:=Vi (P:=P) g.dets;have WQ:∀{i:Nat}[?aV][?eU],i<=r->?u1->?u0:=fun hi h j hj=>tL (qa6 (h.st.headD ?a8 hi hj) hE) O9m
 have hηN:∀j,?aC->j<n->?p0:=fun j h1 h2=>by
  ext iE;have q:=?vD;ext vJ
  exact_mod_cast this
 refine ?nU;by_cases hir:i<r
 . obtain⟨_,h,bb⟩:i<=r/\?u1/\?oV:=by
    rcases hJ with hJ|⟨h,_⟩
    . exact hJ
    . omega
   have H:=jV g (qe6 w n) h hir hE he (qa6 (qb4 _ (qd4 hi)) hb) hπb;have tm:?rX<=?aO:=jF π b hir;have tm':?rX=?eL+?fK:=rfl;have tn:?aO<=?d2:=qe6 _ _
   have hG:∀spot (s':?x) st,?aT->Dj n ?k w i ?bJ s.1 s.2 t π b ?d s'.1 s'.2->Hi ?k ?rL st->st<w:=fun spot s' st hs p hB=>by
    obtain⟨c,hc,h0⟩:=pK he0 g.sq (fun k c _ hc=>?c7) hir ((h.st.good.mono (qn0 i)).trans p.good) ?l dl;rcases qg5 c st with z | z
    . exact ?b9 (hB.1 c z) h0
    . exact qb5 z hc
   obtain⟨I,Pu,ev⟩:=cF (C:=?l8) (δ:=?k1) (β:=β+?eL) H rfl (h.st.good.dual dl) bb O9m hπ h.st.pg hG fun t1 Y R1 B1 R2 B2 I1 D1 j hj=>by
    have:=?xW h.st.next (show i+1<=r from hir);exact tL (qa6 ?W hE) O9m
   refine⟨I,Pu,?tA⟩;obtain⟨e1,e2,e3,e4,e5⟩:=ev ?d st s' hs hI hB hex;exact⟨e1,?u ⟨hir,h.next hir e2 hs e3 e4,by rw[tm',←qs0];exact e5⟩⟩
 . have OX:r<=i:=O9m
   obtain⟨h,ab,bb,h9⟩:?y2 ?e3/\?oB:=by
    rcases hJ with⟨h1,h,bb⟩|⟨_,h⟩
    . have e:i=r:=O9m
      subst e;refine⟨h.wide ?sO,?_,?_,WQ ?l h⟩
      . rw[qj0,Nat.zero_mul];exact SH bb rn hβ
      . rw[qj0];exact bb
    . exact h
   have hsd:r+?g3=i:=O9m
   have row:∀c,?eI=?oF:=fun c=>h.st.good.rest i c ?l;have zero:∀c,c<kt i->?eI=0:=fun c hc=>by rw[row];exact ?dK i c OX hi hc
   have hd0:0<s.1 i (kt i):=by rw[row,?gR i OX hi];exact K.pos i OX hi
   have ktW:=K.lt i OX hi;have bg:Hi ?k (s.1 i) (kt i):=⟨zero,O9m,ktW⟩
   have em:?r7=?q1+(?p1+(r+?g3)+3):=rfl;have emo:?r7<=?f9:=KJ _ _ _ O9m;have tn:?d2=?aO+?f9:=rfl;rw[hsd]at em;refine⟨fun _ s'=>s'=s,⟨rfl,?_,fun _ _ _ hs _=>hs,?_⟩,?_⟩
   . rintro spot _ _ rfl;exact⟨kt i,ktW,O9m⟩
   . rintro spot _ hs rfl hz h0;exact ?b9 (h.skip K OX hi hs ?l) h0
   . rintro spot st s' hs e hB hex;have e:=e.symm;subst e;have RN:=hB.one bg;subst RN
     have esp:spot=i:=by
      rcases qg5 ?d i with z | z
      . exact ?b9 (h.skip K OX hi z (qd4 (hex z))) hB.2.1
      . omega
     subst esp
     have A25:insS ?d ?d ?fW s=s:=by
      have m1:?hT ?d ?d s=s:=by
       show(?b2 s.1 ?d ?d,?b2 s.2 ?d ?d)=s;rw[Pi,Pi]
      rw[insS,m1,?v]
     rw[A25];obtain⟨k1,k2,k3⟩:=h.last K OX hi (fun c hc=>hc) ktW (C:=?l8) (δ:=?k1) bb (fun k hk=>ab k ?d hk ?l hi);have hbd:?oT<=big:=O9m
     have st':=k1.st.st
     have hh:∀d,d<=?mE->∀j,?lL->(?dT (insT t ?d ?fW) ?d s d).1 j (?g9)=?k4:=fun d hd j hj=>by
      obtain⟨l1,_⟩:=k2 d hd;have:=l1.rows j (?g9);rw[this];split
      . rename_i z
        have tl:?g9<?lF:=by
         have:=st'.inc j ?d z.2 O9m;have e:insT t ?d ?fW ?d=?lF:=by unfold insT;rw[?v,?t]
         omega
        rw[zero _ tl,qe2,qn4]
      . rfl
     have hs9:∀j,?lL->(?k4).natAbs<L9:=fun j hj=>by
      unfold insT;rcases qg5 j ?d with z | z
      . rw[?J];exact h9 j z
      . have:j=spot:=O9m
        subst this;rw[?v,?t,row,?gR j OX hi];exact tL (hηN j OX hi) O9m
     have hpos:∀j,?lL->0<?k4:=fun j hj=>by
      have:=st'.pos j O9m;rw[hh ?F ?l j hj]at this;exact this
     refine⟨fun d hd=>⟨?yY ⟨st'.lt j hj2,by rw[?p4];exact hpos j O9m,by rw[?p4];exact ?oH⟩,fun m hm=>?_⟩,?L ⟨O9m,k1,?_,?_,fun j hj=>by rw[hh ?F ?l j ?e];exact ?oH⟩⟩
     . rcases qg5 m d with z | z
       . have:=k3 d O9m m z;rw[this];exact ?aR (k2 d O9m).2 hbd
       . have e:m=d:=O9m
         subst e;exact ?aR (k2 ?e5 O9m).2 hbd
     . have:=h.above K OX hi hηN ab (?qS).1;rw[?rV,qf4,qf3];have e:?bQ+((spot-r)*?aQ+?aQ)=?yL η+1:=O9m
       rw[e];exact this
     . rw[?rV,em];have:=(?qS).2;rw[show ?dH+(?r9+(?yL spot+3))=?oT by omega];exact this
theorem ML{M:Mat}{k:Nat}(hp:∀x,x<k->0<M x x):∀m,k<=m->(∀x,k<=x->x<m->M x x=0)->lI m M=Io k ?lK:=by
 have base:∀j,j<=k->lI j M=Io j ?lK:=fun j=>by
  induction j with
  | zero=>intro _;rfl
  | succ j ih =>
    intro hj;have:=hp j O9m;rw[Os,?v,ih ?e,Xx]
 intro m
 induction m with
 | zero=>intro h _;exact base 0 ?e6▸(by rw[?xJ k 0])
 | succ m ih =>
   intro h hz;by_cases e:k=m+1
   . subst e;exact base _ ?l
   . rw[Os,?o (hz m ?e ?e),ih ?e fun x h1 h2=>hz x h1 ?e]
noncomputable abbrev rZ:Nat:=67000000
def Lm(n:Nat)(s:?x):Prop:=∀a b,a<n->b<n->pT n s.2 s.1 a b=?lI
theorem Lm.one(n:Nat):Lm n ?dO:=fun a b ha hb=>by
 show ?xS (fun k=>?iP k a*?iP k b)=_;rw[?B ha fun k _ hk=>by unfold Lat.one;rw[?j hk,qh6]];unfold Lat.one;rw[?t,qd0]
theorem Lm.go[?aE]{T:Mat}{l:?x}{R B:Mat}(h:?fS)(e:∀a b,pT n B R a b=pT n l.2 (?i w T l.1) a b):Lm n (?aZ,B):=fun a b ha hb=>by
 have:=e a (w+b);rw[←h a b ha hb];refine Eq.trans ?W ?_;exact Ag fun k _=>by rw[beside_hi]
theorem VM(i j:Nat):?oL<=1:=by
 unfold one;split<;>decide
theorem aE{n w W b:Nat}{T P:Mat}(hT:?yI ?d5 ?E)(hP:∀i c,i<n->c<W->(P i c).natAbs<=?E):∀i c,i<n->c<w+W->(?oF).natAbs<=?E:=fun i c hi hc=>by
 unfold beside;split
 . rename_i h;exact ?nN
 . exact ?vB
theorem Vf{n w W b:Nat}{T P:Mat}(hT:∀i c,i<n->c<w->?d5<?E)(hP:?s n W b P):?s n (w+W) b ?C:=fun i c hi hc=>by
 unfold beside;split
 . rename_i h;exact ?nN
 . exact ?vB
theorem Vg{n w W b:Nat}{R:Mat}(h:?s n (w+W) b R):?s n W b ?aZ:=fun i c hi hc=>h i ?e4 hi O9m
theorem Kv{n W b b':Nat}{R:Mat}(h:?s n W b R)(hb:b<=b'):?s n W b' R:=fun i c hi hc=>qb3 (h i c hi hc) (qe5 ?bH hb)
theorem wB{e:Int}{D π:Nat}(h:e<=D)(hD:?f5)(h0:0<e):e.natAbs.log2<=π/\?lS:=by
 have h1:?lS:=by
  have:e.natAbs<=D:=O9m
  exact qa6 ?W hD
 refine⟨?_,h1⟩;have:e.natAbs.log2<?a2:=(Nat.log2_lt O9m).mpr (qb5 h1 (?i5));omega
theorem JL.done{n w r π b η β c:Nat}{M B0:Mat}[?cX][?aV][?eU](rn:?bT)(h:?y6 n)(hc:?d2<=c):(∃G,?x0 n G)/\?s n ?k (β+c) s.1/\?s n n (β+c) s.2:=by
 have e:?d2=?aO+?f9:=rfl;rcases h with⟨h0,h,bb⟩|⟨h0,h,_,bb,_⟩
 . have en:n=r:=O9m
   subst en;have:=?kS (show β+Dz π b n<=β+c by omega);exact ?pL
 . have:=?kS (show _<=β+c by omega);exact ?pL
universe Hb
namespace Lat
open Hb
def E9(f:?g):?g
 | 0=>0
 | n+1=>?jE
theorem Kk{f g:?g}:∀{n:Nat},(∀k,k<n->f k<=g k)->?fI<=?jI
 | 0,_=>?b0
 | n+1,h=>Nat.add_le_add (Kk fun k hk=>h k O9m) (h n O9m)
theorem Ta[?Y]:∀n:Nat,(?xS f).natAbs<=E9 (fun k=>(f k).natAbs) n
 | 0=>?b0
 | n+1=>qa6 (qf2 (?xS f) (f n)) (?r1 (Ta f n) _)
theorem Wn(f:?g)(c:Nat):∀n:Nat,E9 (fun k=>f k*c) n=?fI*c
 | 0=>by show 0=0*c;omega
 | n+1=>by show E9 _ n+f n*c=(?jE)*c;rw[Wn f c n,qf4]
theorem GY{f g:?g}{c:Nat}:∀{n:Nat},c<n->f c=f c->(∀k,k<n->k≠c->f k=g k)->g c=0->?fI=f c+?jI
 | 0,h,_,_,_=>O9m
 | n+1,h,e,hk,h0=>by
   show ?jE=f c+(?jI+g n)
   by_cases z:c=n
   . subst z;have:E9 f c=E9 g c:=qj1 (Kk fun k hk'=>ql0 (?u5)) (Kk fun k hk'=>ql0 (?u5).symm);omega
   . have:=GY (n:=n) O9m rfl (fun k hk'=>hk k O9m) h0;have:=hk n O9m O9m;omega
theorem i6{i:Nat}{R B:Mat}[?aV](P:Part R t 0 i){a m:Nat}(h:∀j,j<i->(Ai (?iN) i).natAbs<=m*?e9):∀j,j<i->(B j a).natAbs<=2 ^ j*m:=by
 intro j
 induction j using Nat.strongRecOn with
 | _ j ih =>
   intro hj;have pj:=P.pos j ?e6 hj;have hs:=h j hj;rw[?jB (j:=j+1) ?e fun k h1 h2=>by rw[P.zero k _ ?e6 h2 (P.inc j k ?e6 ?e h2)];simp]at hs;have hs':(Ai (?iN) j+?nS).natAbs<=m*?e9:=hs
   have b:=AO (f:=?iN) (m:=m) (h:=?e9) (j:=j) fun k hk=>by
    rw[qb0];obtain⟨r1,r2⟩:=P.red k j ?e6 hk hj;exact qf0 (ih k hk O9m) O9m
   have c:(?nS).natAbs<=2 ^ j*m*?e9:=qa6 (V3 hs') (by rw[qw4];exact b);rw[qb0]at c;exact qq3 c O9m
section
variable{n w r E:Nat}{e:Int}{T P PB R RB:Mat}[?iC]
theorem mW[?eT]{x:?h}{v:?h}(hx:∀c,c<w->v c=?v2)(hv:∀c,c<w->(v c).natAbs<=e.natAbs):?u7:=by
 have rn:=g.sq.rn;have rw':=g.sq.rw
 let a:Nat->?g:=fun c k=>if ?iV then ?hD*(T k k).natAbs else 0
 have step:∀c,c<r->E9 (a c) n=a c c+?tR:=fun c hc=>GY O9m rfl (fun k hk ne=>by
  show(if ?iV then _ else 0)=if ?g1 then _ else 0
  by_cases z:?iV
  . rw[?J,?o ⟨?kK,z.2⟩]
  . rw[?T,?v]) (by show(if c+1<=c/\c<r then _ else 0)=0;ext iF)
 have top:∀c,c<r->a c c<=e.natAbs+?tR:=fun c hc=>by
  have h1:=hx c O9m;have h2:=Pe (f:=?f1) (g:=fun k=>if k=c then ?e7 else ?dJ) (n:=n+2) (p:=c) (q:=n+1) O9m O9m O9m
  have e1:?v2=?e7+?qL:=by
   have:∀m,c<m->m<=n->Ai (?f1) m=?e7+Ai (fun k=>?dJ) m:=fun m=>by
    induction m with
    | zero=>intro h;omega
    | succ m ih =>
      intro h hm;show Ai _ m+?tW=?e7+(Ai _ m+if c+1<=m/\m<r then ?tW else 0)
      by_cases z:c=m
      . subst z;have z1:Ai (?f1) c=0:=?X fun k hk=>by rw[g.low k c ?e ?e hk,qe2]
        have z2:Ai (fun k=>?dJ) c=0:=?X fun k hk=>by ext iF
        rw[z1,z2,?v];omega
      . rw[ih ?e ?e];by_cases y:m<r
        . rw[?o ⟨?kK,y⟩];omega
        . rw[?v,?kC m c ?e ?e ?e,qe2];omega
   exact ?W n O9m ?l
  have e2:(?e7).natAbs<=e.natAbs+(?qL).natAbs:=by
   have:=hv c O9m;rw[h1,e1,Int.add_comm]at this;exact V3 ?W
  refine qa6 (ql0 ?_) (qa6 e2 (qu5 (qa6 ?mW ?oD) _))
  . show(if c<=c/\c<r then _ else 0)=_;rw[?o ⟨?b0,hc⟩,qb0]
  . show(?dJ).natAbs<=if ?g1 then ?hD*(T k k).natAbs else 0
    by_cases z:?g1
    . rw[?J,?J,qb0];obtain⟨r1,r2⟩:=g.red c k O9m z.2;exact ?uN
    . rw[?T,?T];ext Z
 have all:∀d,d<=r->E9 (a (r-d)) n+e.natAbs<=?jX:=fun d=>by
  induction d with
  | zero =>
    intro _
    have:E9 (a (r-0)) n<=E9 (?g5) n:=Kk fun k _=>by
     show(if r-0<=k/\k<r then _ else 0)<=0;ext iF;ext Z
    have z:∀m,E9 (fun _=>0) m=0:=fun m=>by induction m with
     | zero=>rfl
     | succ m ih=>show E9 (?g5) m+0=0;omega
    rw[z]at this;rw[qw3];omega
  | succ d ih =>
    intro hd;have i1:=?bI;have s:=step (r-?aH) O9m;have t:=top (r-?aH) O9m;rw[show r-?aH+1=r-d by omega]at s t;have p2:2 ^ ?aH*e.natAbs=?jX+?jX:=?oE
    omega
 have fin:=all r ?l;rw[qj0]at fin
 have le1:?tY<=?t8:=Kk fun k hk=>by
  show _<=if 0<=k/\k<r then _ else 0
  rw[?o ⟨?I,hk⟩];have:=g.pos k hk;exact ?j4
 have le2:∀m,r<=m->?t8<=?tH:=fun m=>by
  induction m with
  | zero=>intro h;rw[?xJ r 0];ext Z
  | succ m ih =>
    intro h;by_cases z:r=m+1
    . rw[z];ext Z
    . have:=?bI;show _<=?tH+a 0 m;omega
 have:=le2 n rn;omega
theorem MW[?i9](he:1<=e.natAbs){x:?h}{v:?h}(rn:?bT)(hx:∀c,?bU->v c=?xS (fun k=>x k*?e0))(hv:∀j,?aC->j<n->(v ?aF).natAbs<=?bL)(h0:?u7):E9 ?f2 n<=?r0:=by
 have one:∀j,?aC->j<n->(x j).natAbs<=1+?lU:=fun j h1 h2=>by
  ext iE;have e1:=hx ?aF (?xT K.lt);rw[?jB (j:=j+1) ?e fun k h3 h4=>by rw[?dK k _ ?e h4 (?hR j k h1 ?e h4),qe2]]at e1;have e2:v ?aF=?kT+?rG:=by rw[←?j7];exact e1
  have e3:(?kT).natAbs<=?lU*?bL:=by
   rw[←Wn];refine qa6 (Ta _ j) ?oD;obtain⟨r1,r2⟩:=?hS k j h1 hk h2;show(x k*_).natAbs<=_;rw[qb0];exact ?uN
  have e4:=?xT hv
  have e5:(?rG).natAbs<=(1+?lU)*?bL:=by
   rw[qf4,qf3];refine qa6 (V3 (a:=?kT) (m:=?bL) ?_) (qu5 e3 _);exact qa6 (ql0 (?sW Int.natAbs e2.symm)) e4
  rw[qb0]at e5;exact qq3 e5 O9m
 have all:∀d,r+d<=n->?qY+1<=?jV:=fun d=>by
  induction d with
  | zero=>intro _;rw[qw3];show E9 _ r+1<=_;omega
  | succ d ih =>
    intro hd';have i1:=?bI;have o:=one ?fD O9m O9m;show ?qY+(x ?fD).natAbs+1<=_;rw[qg4];have:2 ^ d*2*?iT=?jV+?jV:=?a9
    omega
 have fin:=all ?h0 O9m;rw[show r+?h0=n by omega]at fin
 have p1:?jM*?iT=?h8+?jM:=by
  rw[Nat.mul_add,Nat.mul_one,←Nat.mul_assoc,←qd7]
  congr 3
  omega
 have p2:?jM<=?h8:=qa6 (?jL) (qh7 _ he);have p3:?r0=?h8+?h8:=?oE
 omega
theorem P4.le{M:Mat}{W:Nat}(K:?pY){i j:Nat}[?aY](h1:?aC)(h2:j<n):(M i ?aF).natAbs<=?bL:=by
 ext iE;rcases qk5 i j with z | z | z
 . obtain⟨a,b⟩:=?hS i j h1 z h2;omega
 . rw[z,?j7];ext Z
 . rw[?dK i _ ?e hi (?hR j i h1 z hi)];exact ?I
theorem g9{π β:Nat}[?eV](he0:0<e)[?iG][?eT](g':?tN)[?i9](K':?pW)(s:?nB)(b1:?s n n β P) :
 ?s n n ?nQ (?aZ):=fun i a hi ha=>by
 obtain⟨x,hx⟩:=(?mG).1 i hi
 have h0:=mW g (x:=x) (v:=R i) (fun c hc=>by rw[?sG];exact Ag fun k _=>by rw[?c7]) fun c hc=>by
  obtain⟨a,b⟩:=g'.le c i hc hi;show(tr R c i).natAbs<=_;omega
 have h1:=MW K (e:=e) O9m g.sq.rn hx (fun j h1 h2=>K'.le hi h1 h2) h0;show(R i ?z).natAbs<_;rw[hx ?z ?e];refine qb5 (qa6 ?mW (qa6 (Kk (g:=fun k=>?hD*?bC) ?hH) ?_)) (m:=?g0*?D*?bC) ?_
 . show(x k*_).natAbs<=_;rw[qb0,beside_hi];exact qe3 _ (qd4 (b1 k a hk ha))
 . rw[Wn];exact qb4 _ (qa6 h1 (qe3 _ he))
 . rw[←qd7,←qd7];ext mT
theorem Wl{π β:Nat}(he0:0<e)[?iG][?vH][?wM](b2:?s n n β PB) :
 ?s n n ?nQ RB:=fun i a hi ha=>by
 have ex:∀k,∃y:?h,k<n->∀c,?bU->?e0=?xS (fun i=>y i*R i c):=fun k=>by
  by_cases hk:k<n
  . obtain⟨y,hy⟩:=(?mG).2 k hk;exact⟨y,fun _=>hy⟩
  . exact⟨?g5,fun z=>?b9 z hk⟩
 let y:?aU:=fun k=>?sQ (ex k)
 have hy:∀k,k<n->∀c,?bU->?e0=?xS (fun i=>?g2*R i c):=fun k=>?p6 (ex k)
 have ybd:∀k,k<n->(?g2).natAbs<=?h7*e.natAbs:=fun k hk=>by
  refine i6 (R:=R) (B:=fun i _=>?g2) (t:=t) (a:=0) (i:=n) ⟨fun j l _=>?cP j l,?nR,?uX,fun l j _=>?dQ l j⟩ (?jA) i hi;rw[←hy k hk ?b3 ?eB];have p:=?gW;by_cases z:j<r
  . rw[?bS ?nM];obtain⟨q1,q2⟩:=g.le k ?b3 hk ?nM;exact qa6 (show(T k ?b3).natAbs<=e.natAbs by omega) (?j4)
  . obtain⟨q1,q2⟩:=ker j O9m hj;rw[q2];rw[q1];exact qa6 (K.le hk O9m hj) (ql7 _ O9m)
 have rel:RB i a=?kA:=by
  have z:∀c,?bU->?qX=0:=fun c hc=>by
   have e1:?xS (fun l=>RB l a*?cG)=?lM:=s.pt a c
   have e2:?lM=?xS (fun l=>?dF*?cG):=by
    have:?lM=?xS (fun k=>Ai (fun l=>?pQ*?cG) n):=Ag fun k hk=>by
     rw[hy k hk c hc,←Ay];exact Ag fun l _=>?a9
    rw[this,Bw];exact Ag fun l _=>by rw[Cv]
   have e3:?qX=?xS (fun l=>RB l a*?cG+(-1)*(?dF*?cG)):=Ag fun l _=>?a9
   rw[e3,Cd,Ay,e1,e2];omega
  have d:=s.dual dl
  have q:?l1=RB i a-?kA:=by
   have:?l1=?xS (fun c=>?zC (R l ?e4*RB i c)):=Ag fun c _=>by
    rw[←Cv];exact Ag fun l _=>?j1
   rw[this,Bw]
   rw[?B hi fun l hl ne=>by
    rw[Ay];have:=d l i hl hi;unfold pD at this;rw[this,?hB,qe2]]
   rw[Ay];have:=d i i hi hi;unfold pD at this;rw[this,?t,ql3]
  have q0:?l1=0:=?X fun c hc=>by rw[z ?e4 ?e,qh6]
  omega
 rw[rel]
 have m1:(?kA).natAbs<=n*(?h7*?D*?bC):=N7 fun k hk=>by
  rw[qb0];exact qf0 (qa6 (ybd k hk) (qe3 _ he)) (qd4 (b2 k a hk ha))
 refine qb5 m1 (qb5 (qb4 _ (qd4 (qp7 (n:=n)))) ?_);rw[←qd7,←qd7,←qd7];ext mT
theorem C8.same{W n:Nat}{R:Mat}[?aV](st:C8 W n R t){v:?h}(hv:In W n R v){j:Nat}(hj:j<n)(h0:∀k,k<j->?gT=0)(h1:v ?b3=?aP)(h2:∀k,j<k->k<n->0<=?gT/\?gT<R k ?eQ):∀c,c<W->v c=R j c:=by
 obtain⟨x,hx⟩:=hv
 have hu:∀c,c<W->v c-R j c=?rJ:=fun c hc=>by
  have e:?rJ=?xS (fun k=>x k*?g6+(-1)*((?fU)*?g6)):=?yR ?a9
  rw[e,Cd,Ay,Da,?o hj,←hx c hc];omega
 have all:∀k,k<n->(x k-?fU)=0:=fun k=>by
  induction k using Nat.strongRecOn with
  | _ k ih =>
    intro hk;have p:=?fG k hk;have e:=hu ?eQ (?eC k hk)
    rw[?B hk fun i hi ne=>by
     rcases qg5 i k with z | z
     . rw[ih i z hi,qh6]
     . rw[?dC i _ hi (?cP k i ?e hi),qe2]]at e
    have small:(?gT-R j ?eQ).natAbs<?lW:=by
     rcases qk5 k j with z | z | z
     . rw[h0 k z,?dC j _ hj (?cP k j z hj)];omega
     . subst z;rw[h1];omega
     . have a:=h2 k z hk;have b:=?dQ j k z hk;omega
    rw[e,qb0]at small;refine qg2 fun ne=>?_;have:1*?lW<=(x k-?fU).natAbs*?lW:=?qO;omega
 intro c hc;have:=hu c hc;rw[?X fun k hk=>by rw[all k hk,qh6]]at this;omega
theorem JA[?vH]{j:Nat}(h1:?aC)(h2:j<n):∀c,?bU->R j c=?yG j c:=fun c hc=>by
 refine(st.same ((?mG).2 j h2) h2 (?hH) ?_ (fun k hk hn=>?_) c hc).symm
 . by_cases z:k<r
   . rw[?bS ?vC];exact ?kC j _ h1 h2 ?vC
   . rw[(ker k ?e ?e).1];exact ?dK j _ h1 h2 (?hR k j O9m hk h2)
 . obtain⟨a,b⟩:=?xT ker;rw[b,a];exact ?j7
 . obtain⟨a,b⟩:=ker k O9m hn;rw[b,a];exact ?hS j k O9m hk hn
universe e9
universe Lat
namespace Hb
open Lat
section
variable{n w b0 D π b β D2 π2 b2 β2 C1 C2:Nat}{A:Mat}
universe e9
def Y5(n:Nat)(f:?sM):Bool:=(?k6 n).all f
theorem Kg{n:Nat}{f:?sM}(h:Y5 n f=true):∀i,i<n->f i=true:=fun i hi=>qe9.mp h i (qd8.mpr hi)
universe Hb
namespace Lat
open Hb
theorem mD:∀(k:Nat) (s:?g),(∀x y,x<=k->y<=k->s x=s y->x=y)->∃x,x<=k/\k<=s x
 | 0,s,_=>⟨0,?b0,?I⟩
 | k+1,s,h=>by
   apply Classical.byContradiction;intro no
   have lt:∀x,x<=k+1->s x<=k:=fun x hx=>by
    rcases qg5 k (s x) with z | z
    . exact ?b9 ⟨x,hx,z⟩ no
    . exact z
   obtain⟨x,hx,hk⟩:=mD k (fun x=>if s x=k then s ?R else s x) fun x y hx hy e=>by
    by_cases h1:s x=k
    . by_cases h2:s y=k
      . exact h x y O9m O9m (h1.trans h2.symm)
      . rw[?b1,?bP]at e;have:=h ?R y ?l O9m e;omega
    . by_cases h2:s y=k
      . rw[?bG,?cO]at e;have:=h x ?R O9m ?l e;omega
      . rw[?bG,?bP]at e;exact h x y O9m O9m e
   have l1:=lt x O9m;have l2:=lt ?R ?l;by_cases h1:s x=k
   . rw[?b1]at hk;have:=h x ?R O9m ?l O9m;omega
   . rw[?bG]at hk;omega
theorem pH{n:Nat}{P PB P':Mat}(h:∀a b,a<n->b<n->pT n PB P a b=?lI)(x:Nat):∀c,c<n->P' x c=?uI:=fun c hc=>by
 have e:?uI=?xS (fun a=>?jZ*pT n PB P a c):=by
  rw[Ag fun u _=>(Cv _ _ _).symm,Bw];refine ?xH ?_;show _=?jZ*?xS (fun k=>?fC*P k c);rw[←Ay];exact Ag fun k _=>by rw[qe1]
 rw[e,?B hc fun a ha ne=>by rw[h a c ha hc,?hB,qe2],h c c hc hc,?t,ql3]
universe Lat
namespace Hb
open PySem L2
def Drawn(h w b0:Nat):Prop:=(h<=7/\w<=8/\b0=4)\/(h<=4/\w<=5/\b0=22)\/(h<=2/\w<=3/\b0=69)
structure Ql[?aW](H:Hp)[?mU](n w k:Nat)[?Y][?cY]:Prop where
 tup:Dy K H tp ?s1
 num:SqL K H nm ?o8
 left:?yU H
 lback:?xR H
 right:?xQ H
 rback:?yV H
theorem Zf.r[?vQ](x:?pH):?uD:=⟨x.tup,.of x.num,x.left,x.lback,x.right,x.rback⟩
theorem Ql.same[?vQ](x:?y5 H)[?iJ]:?uD:=⟨s.seqT x.tup,s.seq x.num,?cR s x.left,?cR s x.lback,?cR s x.right,?cR s x.rback⟩
section
variable[?aW]
universe e9
structure Sta where
 T:?aU
 f:?aU
 l:?aU
 lb:?aU
 r:?aU
 rb:?aU
def dot(x y:?h)(n:Nat):Int:=?xS (fun k=>x k*y k)
def dl(a b:Nat):Int:=if b=a then 1 else 0
structure Good(h w:Nat)(S:Sta):Prop where
 l1:∀r s,r<h->s<h->dot (S.l r) (S.lb s) h=dl r s
 l2:∀a b,a<h->b<h->Ai (fun k=>S.lb k a*S.l k b) h=dl a b
 r1:∀r s,r<w->s<w->dot (S.r r) (S.rb s) w=dl r s
 r2:∀a b,a<w->b<w->Ai (fun k=>S.rb k a*S.r k b) w=dl a b
 now:∀i j,i<h->j<w->S.f i j=dot (fun b=>dot (S.l i) (fun a=>S.T a b) h) (S.r j) w
def unit:?aU:=fun i j=>if j=i then 1 else 0
universe Hb
namespace Lat
open Hb
theorem Wm(g:?h):∀n,?tI=g 0+?pG
 | 0=>by show Ai g 0+g 0=_;show 0+g 0=g 0+0;omega
 | n+1=>by
   show ?tI+g ?q=g 0+(?pG+g ?q)
   rw[Wm g n,Int.add_assoc]
def Vu(A:Mat)(j:Nat):Mat:=fun r c=>A ?bB (if c<j then c else c+1)
theorem BL:∀(n:Nat) (A:Mat),det ?q A=?pB
 | 0,A=>rfl
 | n+1,A=>by
   have e:∀i j,i<n+1->j<n+1->?tJ=?mZ:=fun i j _ _=>C7 fun r c _ _=>by
    show A (if r+1<i+1 then r+1 else r+1+1) ((if c<j then c else c+1)+1)=A ((if r<i then r else r+1)+1) (if c+1<j+1 then c+1 else c+1+1)
    congr 1
    . split<;>split<;>omega
    . split<;>split<;>omega
   show Ai (fun i=>Rr i*A i 0*?xZ Fz i) (n+1+1)=_;rw[Wm,Wm (fun j=>?uP*?xZ Vu j)];have e0:?xZ Fz 0=?xZ Vu 0:=rfl;rw[e0]
   congr 1
   have l:Ai (fun i=>?sL*?xZ Fz ?p) ?q=Ai (fun i=>Ai (fun j=>?sL*(Rr j*A 0 ?cL*?tJ)) ?q) ?q:=Ag fun i _=>by
    rw[BL n,Ay];rfl
   have r:Ai (fun j=>?tO*?xZ Vu ?cL) ?q=Ai (fun j=>Ai (fun i=>?tO*(Rr i*A ?p 0*?mZ)) ?q) ?q:=Ag fun j _=>by
    rw[Ay];rfl
   rw[l,r,Bw];refine Ag fun j hj=>Ag ?hU;rw[e i j hi hj,W1,W1]
   grind
theorem Sz:∀(n:Nat) (A:Mat),det n (fun r c=>A c r)=det n A
 | 0,_=>rfl
 | n+1,A=>by
   rw[BL n A];refine Ag ?hU;rw[←Sz n (Vu A i)];rfl
def sJ[?H](A:Mat)(D:Nat):Prop:=∀(k:Nat) (r c:?g),(∀x,x<k->r x<n)->(∀y,y<k->c y<w)->(det k fun x y=>A ?c4 (c y)).natAbs<=D
theorem fQ(k:Nat)(r:?g):(?q8)\/∀x y,x<k->y<k->r x=r y->x=y:=by
 by_cases h:?q8
 . exact ?gN
 . exact ?L fun x y hx hy e=>Classical.byContradiction fun z=>h ⟨x,y,hx,hy,z,e⟩
theorem NU{k:Nat}(M:Mat)(s:?g){y0:Nat}(h0:y0<k):?z9 ?sI ?tU:=by
 by_cases z:y0=0
 . subst z
   congr 1
   exact C7 fun x y _ _=>by
    by_cases q:y=0
    . rw[?eD,q]
    . rw[?cQ,?cQ]
 rw[←Sz k ?tU,←Sz k ?sI];have e:=DU (A:=?dM) (?wX 0 k) h0 (fun q=>z q.symm) (?fL) (?kO)
 have e1:Bx (Bx ?eO 0 ?fL) y0 (?kO)=?dM:=by
  rw[show Bx ?eO 0 (?fL)=?dM from Gp ?eO 0];exact Gp ?eO y0
 have e2:Bx (Bx ?eO 0 ?kO) y0 (?fL)=?pD:=by
  funext y x
  unfold Bx;by_cases q:y=y0
  . rw[?eD,?v,?eD]
  . rw[?cQ];by_cases q2:y=0
    . rw[?o q2,?o q2]
    . rw[?j q2,?j q2,?cQ]
 rw[e1,e2]at e;show ?z9 ?pD ?dM;rw[e,qc2]
theorem Vh[?wJ]:∀(k:Nat) (r s:?g),(∀x,x<k->r x<n)->(∀y,y<k->s y<w+n)->(det k ?tK).natAbs<=D
 | 0,r,s,hr,hs=>h 0 r s hr fun y hy=>O9m
 | k+1,r,s,hr,hs=>by
   rcases fQ ?R r with⟨x,y,hx,hy,ne,e⟩ | inj
   . ext w8
   by_cases z:∃y,y<k+1/\w<=s y
   . obtain⟨y0,hy,q⟩:=z;rw[←NU (?xP y) s hy]
     have first:∀s':?g,w<=s' 0->(∀y,y<k+1->s' y<w+n)->(det ?R ?sB).natAbs<=D:=fun s' h0 hs'=>by
      show(Ai (fun i=>Rr i*?i w A one (r i) (s' 0)*?mY) ?R).natAbs<=D;have ih:∀i,i<k+1->(?mY).natAbs<=D:=fun i hi=>Vh h k (fun x=>r (if x<i then x else x+1)) (fun y=>s' (y+1)) (fun x hx=>hr _ (by split<;>omega)) fun y hy=>hs' _ O9m
      have cell:∀x,?i w A one ?c4 (s' 0)=if r x=s' 0-w then 1 else 0:=fun x=>by
       unfold beside one;ext iF
      by_cases z:∃i,i<k+1/\r i=s' 0-w
      . obtain⟨i,hi,e⟩:=z
        rw[?B hi fun x hx ne=>by
         rw[cell,?j fun q=>ne (inj x i hx hi (q.trans e.symm))];simp]
        rw[qb0,qb0,V6,qf3,cell,?i0];show 1*_<=D;rw[qf3];exact ih i hi
      . rw[?X fun x hx=>by
         rw[cell,?j fun q=>z ⟨x,hx,q⟩];simp]
        exact ?I
     exact first (fun y=>?wT 0) q fun y hy'=>hs _ (by split;omega;split<;>omega)
   . have e:det ?R (?tK)=det ?R fun x y=>A ?c4 (s y):=C7 fun x y _ hy=>?bS (qj5 fun q=>z ⟨y,hy,q⟩);rw[e];exact h ?R r s hr fun y hy=>qj5 fun q=>z ⟨y,hy,q⟩
theorem sJ.dets[?wJ]:?rT:=fun i hi s hs=>Vh h i (fun x=>x) s (fun x hx=>O9m) hs
theorem few{n k:Nat}{f:?g}(h:∀x,x<k->f x<n)(inj:∀x y,x<k->y<k->f x=f y->x=y):k<=n:=by
 rcases qg5 n k with z | z
 . obtain⟨x,h1,h2⟩:=mD n f fun x y hx hy e=>inj x y O9m O9m e;have:=h x O9m;omega
 . exact z
theorem fM{n w B D:Nat}{A:Mat}(hA:?yI ?uT B)(hD:∀i,i<=n->i<=w->bJ i*B ^ i<=D):?oJ:=fun k r c hr hc=>by
 rcases fQ k r with⟨x,y,hx,hy,ne,e⟩ | h1
 . ext w8
 . rcases fQ k c with⟨x,y,hx,hy,ne,e⟩ | h2
   . rw[←Sz,Fm (A:=fun r' c'=>A (r c') (c r')) hx hy ne ?t5];exact ?I
   . exact qa6 (nU fun x y hx hy=>hA _ _ (hr x hx) (hc y hy)) (hD k (few hr h1) (few hc h2))
structure Td(k w:Nat)(Q:Mat)(p:?g):Prop where
 zero:∀j c,?bK->j<w->c<p j->Q j c=0
 inc:∀i j,k<=i->i<j->j<w->p i<p j
 lt:∀j,?bK->j<w->p j<w
 pos:∀j,?bK->j<w->0<Q j ?bY
 red:∀i j,k<=i->i<j->j<w->0<=Q i ?bY/\Q i ?bY<Q j ?bY
theorem P4.loops{n w r:Nat}[?cX]{T Q:Mat}(h:P4 w ?aM n r kt hd (?i n T Q)):Td r w Q fun j=>kt j-n:=by
 have at':∀i j,?aC->j<w->Q i (kt j-n)=?i n T Q i ?aF:=fun i j h1 h2=>by
  have:=?k5;rw[←?iS n T Q i (kt j-n),show n+(kt j-n)=kt j by omega]
 refine⟨?j2,?rP,?kV,?kV,?rP⟩
 . rw[←?iS n T Q j c];exact ?dW j _ h1 h2 O9m
 . have:=?hP i j h1 h2 h3;have:=h.ge i h1 O9m;omega
 . have:=?xT h.lt;have:=?k5;omega
 . rw[at' j j h1 h2,?v9];exact ?s5
 . rw[at' i j ?e h3,at' j j ?e h3,h.head j ?e h3];exact ?fV i j O9m h2 h3
theorem Td.congr{k w:Nat}{Q Q':Mat}{p:?g}(h:?lD)(e:∀j,?bK->Q' j=Q j):Td k w Q' p :=
 ⟨fun j c h1 h2 h3=>by rw[e j h1];exact ?rM,?hP,h.lt,fun j h1 h2=>by rw[e j h1];exact ?s5,fun i j h1 h2 h3=>by rw[e i h1,e j ?e];exact ?fV i j h1 h2 h3⟩
universe Lat
namespace Hb
open Lat
structure iQ(n w b0 D π b β D2 π2 b2 β2 C1 C2 F:Nat):Prop where
 dπ:?f5
 nb:?o7
 wb:w*D<=?E
 b0π:?fJ
 πb:?gH
 bβ:b<β
 nβ:?kX
 st:?n9
 π9:?dV
 d2:∀i,i<=n->i<=w->?l3<=D2
 dπ2:D2<=?d9
 wb2:w*D2<=?iX
 bπ2:b<=π2
 πb2:π2<=b2
 bβ2:b2<β2
 wβ2:w+b<β2
 st2:∀i,i<w->?n0
 π92:?p5
 c1:∀r,?bT->r<=w->?z1 π n<=C1
 c2:∀r,?bT->r<=w->?z1 π2 w<=C2
 f1:?z5 F
 f2:?z6 F
 fb:F<=rZ
section
variable{n w b0 D π b β D2 π2 b2 β2 C1 C2 F:Nat}{A:Mat}
def UF[?wE](m:Nat)(M:Mat)(l r:?x):Prop:=∃(k:Nat) (e:Int) (kl kr:?g) (hl hr:?h),Rn n w k D π m e A M l.1 l.2 r.1 r.2 kl kr hl hr/\m<=?y/\e<=D/\(∀j,?bK->j<n->hl j<=?D)/\(∀j,?bK->j<w->hr j<=?d9) ∧
 ?s n n (?d4) l.1/\?s n n (?d4) l.2/\?s w w (?c0) r.1/\?s w w (?c0) r.2/\?fS/\?lZ/\?j3
theorem xB[?vI]:Ro n w A ?sR ?sR (fun M l r=>∃m,?oZ):=by
 have o0:∀b i j,?oL<=?E:=fun b i j=>qa6 (VM i j) qk0;have hM:=aE (W:=n) hA fun i c _ _=>o0 b0 i c;refine⟨JF n w ?h6,Va hM ?a8 ?cN p.nb p.b0π (qa6 p.b0π p.πb) p.bβ p.nβ p.st ?fQ (Sx n w A),?uJ,JF.lt,fun t1 s1 h1=>?_⟩;have hR:∀i c,i<w->c<n->((?yO i) i c:Int).natAbs<=?E:=fun i c hi hc=>qa6 (h1.rowD ?a8 ?l (fun c h=>h) hc (show i<w+n by omega)) p.nb;have hM2:=aE (W:=w) hR fun i c _ _=>o0 b i c;have IG:N3 w (fun c=>c<n+w) (?i n (tr s1.1) one) D2:=(fM hR fun i h1 h2=>p.d2 i h2 h1).dets;refine⟨JF w n (?i n (?yO i) one),Va hM2 IG p.dπ2 p.wb2 p.bπ2 (qa6 p.bπ2 p.πb2) p.bβ2 p.wβ2 p.st2 p.π92 (Sx w n _),?uJ,JF.lt,fun t2 s2 h2=>?_⟩;have bb1:=Ri hM ?a8 (fun k a=>rfl) h1 ?l p.nb (qa6 p.b0π p.πb) p.bβ p.nβ;have bb2:=Ri hM2 IG (fun k a=>rfl) h2 ?l p.wb2 (qa6 p.bπ2 p.πb2) p.bβ2 p.wβ2;obtain⟨k,e,kn,kw,he,wk,hl,hr⟩:=EN (L:=π) ?a8 IG h1 h2
 have up:∀{x:Int}{a q:Nat},x<=a->a<=2 ^ q->x<=2 ^ q:=fun {x a q} h1 h2=>by
  exact qt8 h1 (by exact_mod_cast h2)
 have km:k*?b6<=?y:=?qO;exact⟨k*?b6,k,e,_,_,_,_,wk,km,he,fun j _ h=>up (hl j h) ?cN,fun j _ h=>up (hr j h) p.dπ2,Kv (Vg bb1.1) ?eE,Kv bb1.2.1 ?eE,Kv (Vg bb2.1) ?eE,Kv bb2.2.1 ?eE,(Lm.one n).go h1.good.pt,(Lm.one w).go h2.good.pt,fun j c _ hj hc=>qa6 (h2.rowD IG ?l (fun c h=>h) hj (show n+c<n+w by omega)) p.wb2⟩
theorem WB(p:?qB){m:Nat}{M:Mat}{l r:?x}(h:?oZ)(ns:¬?r4 n w M):?yH (fun M' l' r'=>∃m',m'<m/\UF n w D π β π2 β2 b2 A m' M' l' r'):=by
 obtain⟨k,e,kl,kr,hl,hr,wk,hm,he,ηl,ηr,q1,q2,q3,q4,v1,v2,sp⟩:=h;obtain⟨lg,le⟩:=wB he ?cN ?aG;have rn:=wk.going.sq.rn;have rw':=wk.going.sq.rw;have c1:=p.c1 k rn rw';have c2:=p.c2 k rn rw';ext vS
 have sC:∀C,(?y-m)*C+C<=(?y+1)*C:=fun C=>by
  rw[qf4,qf3];exact ?r1 (?qC) _
 ext w6;have b1:?d4+Ln π b π k n<=big:=O9m
 have pB:?c0+Ln π b π2 k w<=big:=O9m
 have β1:?a2<=?d4:=by have:=p.πb;have:=p.bβ;omega
 have β1':π2+1<=?c0:=by have:=p.πb2;have:=p.bβ2;omega
 have tb:∀{n' w':Nat}{T:Mat}{x:Nat},?a2<=x->E7 n' w' k D e T->∀i c,i<n'->c<w'->?d5<2 ^ x:=fun {n' w' T x} hx g i c hi hc=>by
  obtain⟨g1,g2⟩:=g.le i c hi hc;have:?d5<=?D:=O9m
  exact ?s7
 have bl:=Vf (tb β1 ?dX) q1;refine⟨JL n w k (?i w M l.1) l.2 kl hl π b π (?d4),U6 ?dX ?aG ?hJ wk.dl ηl β1 b1 ?cN le p.nb p.πb ?fQ ?fQ,fun t=>?u ⟨?I,?nA,wk.kl.bits ηl bl q2 β1⟩,JL.lt,fun t1 u1 j1=>?_⟩;obtain⟨⟨G1,K1⟩,_,_⟩:=JL.done rn j1 c1;obtain⟨d1,d2,d3,d4⟩:=M7 ?aG ?dX ?hJ K1 wk.told;have z1:=g9 (G:=G1) ?aG le ?dX d2 ?hJ d3 ?qJ q1;have z2:=Wl ?aG le ?dX ?hJ ?qJ K1.st.st (fun j hj=>K1.tab j hj O9m) (?xV K1.ker) wk.dl q2;have ker:P4 w ?aM n k kr hr (?xB i):=?wN wk.kr.table d2.sq.row0;have dr:Fb w n (?xB i) r.2:=Gn wk.dr;have hπ2:?a2<=?c0:=by have:=p.πb;have:=p.bπ2;omega
 have br:=Vf (tb hπ2 d2) q3;refine⟨JL w n k (?xB i) r.2 kr hr π b π2 (?c0),U6 d2 ?aG ker dr ηr β1' pB ?cN le p.wb p.πb ?fQ p.π92,fun t=>?u ⟨?I,?nA,ker.bits ηr br q4 β1'⟩,JL.lt,fun t2 u2 j2=>?_⟩;obtain⟨⟨G2,K2⟩,_,_⟩:=JL.done rw' j2 c2;obtain⟨_,nx⟩:=wk.next lg K1 K2;obtain⟨m0,wk'⟩:=nx ns;have k2:∀x c,x<w->c<n->tr u1.1 x c=N5 w n ?eN (r.1 x) ((?nH) c):=fun x c hx hc=>Te (T:=u1.1) (P:=?nH) d4 x c hx hc;obtain⟨h1,h2,h3,h4⟩:=M7 ?aG d2 ker K2 k2;have y1:=g9 (G:=G2) ?aG le d2 h2 ker h3 ?kM q3;have y2:=Wl ?aG le d2 ker ?kM ?uE (fun j hj=>K2.tab j hj O9m) (?xV K2.ker) dr q4
 have en:∀C,(?qH)*C=(?y-m)*C+C:=fun C=>by
  rw[show ?qH=?y-m+1 by omega,qf4,qf3]
 refine⟨m-1,O9m,k,e,kl,kr,hl,hr,wk',O9m,he,ηl,ηr,?_,?_,?_,?_,v1.go K1.st.good.pt,v2.go K2.st.good.pt,?j2⟩
 . rw[en,←qs0];exact z1
 . rw[en,←qs0];exact z2
 . rw[en,←qs0];exact y1
 . rw[en,←qs0];exact y2
 . show(u2.1 j (n+c)).natAbs<=_;rw[JA d2 ker ?kM ?uE (fun j hj=>K2.tab j hj ?e) (?xV K2.ker) h1 h2 (n+c) ?e,beside_hi];exact sp j c h1 h2 h3
def YF[?wE](k d:Nat)[?Y](l r:?x):Prop:=?n8/\d<=?m9/\BB n n ?dE 0 (β+?gS*?bD+d*(2*π+4)) l/\BB w w ?dE 0 (β2+?gS*?c2+d*?b6) r/\?fS/\?lZ/\(?uF)/\?j3
structure xU(n w D F b2:Nat)(A:Mat)(k:Nat)[?Y](l r:?x):Prop where
 dg:?n8
 il:?fS
 ir:?lZ
 bl:?s n n F l.1/\?s n n F l.2
 br:?s w w F r.1/\?s w w F r.2
 lo:?uF
 sp:?j3
theorem zV[?vI]:Zg n w A (xU n w D F b2 A):=by
 refine⟨UF n w D π β π2 β2 b2 A,YF n w D π β π2 β2 b2 A,xB p hA ?a8,fun m M l r h ns=>WB p h ns,?_,?_,?_⟩
 . rintro m M l r ⟨k,e,kl,kr,hl,hr,wk,hm,he,ηl,ηr,q1,q2,q3,q4,v1,v2,sp⟩ hS;have dg:=wk.diag hS;have sC:∀C,(?y-m)*C<=?gS*C:=fun C=>?qC;ext w6;refine⟨k,?lK,ML ?hL _ (?u8) fun x h1 h2=>dg.zero x h1 O9m O9m,dg.mn,dg.mw,dg,?I,⟨Kv q1 O9m,Kv q2 O9m,?q9⟩,⟨Kv q3 O9m,Kv q4 O9m,?q9⟩,v1,v2,⟨_,wk.kr.loops⟩,sp⟩
 . rintro k d i j f l r ⟨dg,hd,bl,br,v1,v2,⟨pl,lo⟩,sp⟩ hdk hij hj;have mn:=dg.mn;have mw:=dg.mw
   have lf:∀x,x<k->(f x).natAbs<=?D:=fun x hx=>by
    have h1:=dg.le hx;have h2:=?hL x hx;exact qa6 O9m ?cN
   have kk:?m9<=5*?n+?n*?n:=by
    have h:k<=?n:=O9m
    have:=qf0 h h;omega
   ext vS
   have dm:∀X,d*X+X<=?x2 X:=fun X=>by
    have:=qb4 X (show d+1<=5*?n+?n*?n+1 by omega);rw[qf4,qf3]at this;exact this
   have d1:=dm (2*π+4);have d2:=dm ?b6;ext vR;ext w5;have b1:BB n n ?dE 0 (β+?y*?bD+d*(2*π+4)+(1+1)) (addS i j 1 l):=bl.add O9m O9m (k:=1) (c:=1) ?bH;have WA:∀{x:Nat},x<=?D->x<2 ^ (?a2):=fun h=>?tC;refine⟨⟨⟨?r3,?yX ?dN⟩,⟨by have:=?hL j hj;omega,?yX ?dB⟩,⟨?aR bl O9m,?aR b1 O9m⟩,?aR br O9m⟩,fun iE=>⟨dg,O9m,bl.mono (by rw[qf4];omega),br.mono (by rw[qf4];omega),v1,v2,⟨pl,lo⟩,sp⟩,fun g a b' sh=>⟨?_,O9m,?_,?_,?_,?_,⟨pl,lo.congr ?oC⟩,fun x c h1 h2 h3=>?_⟩⟩
   . have:=dg.share hij hj sh;unfold XY pP VA addS blendS;simp only[qn2];exact this
   . have lb:(?rF).natAbs<2 ^ (2*π+1):=by
      refine qb5 (qh2 _ _) ?_;rw[qb0];refine qb5 (qf0 (qa6 sh.lb ?dN) ?dB) ?_;rw[←qd7];ext mT
     have pB:=b1.add (p:=j) (q:=i) O9m O9m (k:=-(?rF)) (c:=2*π+1) (by rw[qc2];exact lb);refine pB.mono ?_;rw[qf4,qf3];omega
   . have:=br.blend (p:=i) (q:=j) O9m O9m O9m (x:=a) (y:=b') (z:=-(f j / g)) (u:=?aK) (c:=?a2) (WA (qa6 sh.la ?dB)) (WA (qa6 sh.lb ?dN)) (WA (by rw[qc2];exact qa6 (qh2 _ _) ?dB)) (WA (qa6 (qh2 _ _) ?dN));refine this.mono ?_;rw[qf4,qf3];omega
   . intro x y hx hy;rw[←v1 x y hx hy];exact(?z3 j i).trans (?z3 i j)
   . intro x y hx hy;rw[←v2 x y hx hy];exact cX _ _ (?wX i w) (?wX j w) O9m (?tE (π:=π) (?r3) ?dN ?dB).one x y
   . exact ?qV
   . have e:(?xX b').1 x=r.1 x:=?qV;rw[e];exact sp x c h1 h2 h3
 . rintro k d f l r ⟨dg,hd,bl,br,v1,v2,lo,sp⟩;have h:k<=?n:=?u8
   have kk:=qf0 h h;have f1:=p.f1;have f2:=p.f2;have dm:∀X,d*X<=?x2 X:=fun X=>qb4 X O9m;ext vR;have d1:=dm (2*π+4);have d2:=dm ?b6;ext w5;exact⟨dg,v1,v2,⟨(?x6 bl.mono).1,(?x6 bl.mono).2.1⟩,⟨(?x6 br.mono).1,(?x6 br.mono).2.1⟩,lo,sp⟩
universe e9
universe Hb
namespace Lat
open Hb
def mulV(w:Nat)(A:Mat)(x:?h):?h:=fun i=>Ai (fun j=>A i j*x j) w
theorem Y0[?H](A:Mat)(p x:?h):?wV p x=?xS (fun a=>p a*?K w A x a):=rfl
theorem OD{w:Nat}{Q QB:Mat}(h:∀a b,a<w->b<w->pT w QB Q a b=?lI)(x:?h):∀c,c<w->x c=Ai (fun y=>?x8 x y*Q y c) w:=pH (P':=fun _=>x) h 0
def numAt[?Y](k i:Nat):Int:=if i<k then f i else 0
section
variable{n w k E:Nat}[?iB]
universe e9
universe Lat
namespace Hb
open PySem L2
section
variable[?aW]
universe e9
section
variable[?aW]
universe e9
universe Hb
namespace Lat
open Hb
section
variable{n w k E:Nat}[?iB]
theorem gS{u:?h}(hl:?t0)(hu:∀x,x<n->?pC=0):∀a,a<n->u a=0:=fun b hb=>by
 have e:?n2=u b:=by
  have:?n2=?xS (fun x=>Ai (fun a=>u a*(PB x b*P x a)) n):=Ag fun x _=>by
   rw[←Ay];exact ?xH ?a9
  rw[this,Bw]
  rw[?B hb fun a ha ne=>by
   rw[Ay];have:=hl b a hb ha;unfold pT at this;rw[this,?j fun q=>ne q.symm,qe2]]
  rw[Ay];have:=hl b b hb hb;unfold pT at this;rw[this,?t,ql3]
 rw[←e];exact ?yM hu
theorem Gg.spare(h:?tM)(hl:?t0){y:Nat}(h1:k<=y)(h2:y<w):∀x,x<n->?K w A (Q y) x=0 :=
 gS hl fun x hx=>by
  have:=?fE x y hx h2;rw[Y0]at this;rw[this];by_cases z:x=y
  . rw[?J,z];exact ?dW y h1 O9m h2
  . rw[?T]
theorem Gg.madeS(h:?tM)(hr:?sF){v:?h}(hv:∀x,x<n->?K w A v x=0):∀c,c<w->v c=Ai (fun i=>?lG*?gG) ?eF:=fun c hc=>by
 have mw:=h.mw;have mn:=h.mn
 have z:∀y,y<k->?kZ=0:=fun y hy=>by
  have e1:?nP=0:=by
   rw[Y0];exact ?yM hv
  have e2:?nP=f y*?kZ:=by
   rw[Uq (p':=P y) (q':=fun c=>Ai (fun u=>?x8 v u*Q u c) w) (?dU) (fun b hb=>OD hr v b hb),Md,bW];rw[?B (?wX y w) fun u hu ne=>by rw[←Md,?fE y u ?e hu,?j fun q=>ne q.symm,qe2]];rw[←Md,?fE y y ?e ?e,?t,qf9]
  rw[e2]at e1;have p:=?bA y hy;rcases qo2.mp e1 with q | q
  . omega
  . exact q
 rw[OD hr v c hc]
 have sp:∀d,k+d<=w->?v1=Ai (fun i=>?lG*?gG) d:=fun d=>by
  induction d with
  | zero=>intro _;exact ?X fun y hy=>by rw[z y hy,qh6]
  | succ d ih =>
    intro hd;have i1:=?bI;show ?v1+?x8 v (k+d)*Q (k+d) c=_;rw[i1];rfl
 have:=sp ?eF O9m;rw[show k+?eF=w by omega]at this;exact this
universe e9
section
variable{n w m i:Nat}{d v:?h}{A:Mat}
universe e9
universe Lat
namespace Hb
open Lat
def mJ(n w b0 π b β π2 b2 β2 C1 C2 F:Nat):Bool :=
 (?Q (n*?D<=?E/\w*?D<=?E/\?fJ/\?gH/\b<β/\?kX)&&(Y5 n (fun i=>?Q (?m6))&&(?Q (?dV) &&
 (Y5 (?n+1) (fun i=>?Q (?l3<=?d9))&&(?Q (w*?d9<=?iX/\b<=π2/\π2<=b2/\b2<β2/\w+b<β2)&&(Y5 w (fun i=>?Q (?n0))&&(?Q (?p5) &&
 (Y5 (?n+1) (fun r=>?Q (?z1 π n<=C1/\?z1 π2 w<=C2)) &&
 ?Q (?z5 F/\?z6 F/\F<=rZ)))))))))
theorem MI{n w b0 π b β π2 b2 β2 C1 C2 F:Nat}(h:mJ n w b0 π b β π2 b2 β2 C1 C2 F=true):?y3 (?D) (?d9):=by
 unfold mJ at h;simp only[qc3,qo5]at h;obtain⟨⟨h2,h3,h4,h5,h6,h7⟩,h8,h9,k1,⟨k2,k3,k4,k5,k6⟩,k7,k8,k9,m1,m2,m3⟩:=h
 exact⟨?b0,h2,h3,h4,h5,h6,h7,fun i hi=>qd2 (Kg h8 i hi),h9,fun i h1 h2=>qd2 (Kg k1 i O9m),?b0,k2,k3,k4,k5,k6,fun i hi=>qd2 (Kg k7 i hi),k8,
  fun r hr hw=>(qd2 (Kg k9 r O9m):_/\_).1,fun r hr hw=>(qd2 (Kg k9 r O9m):_/\_).2,m1,m2,m3⟩
universe Hb
namespace Lat
open Hb
def jK:(?g)->?g
 | _,0=>1
 | B,n+1=>B 0*?eA
theorem Vd:∀{n:Nat}{A:Mat}{B:?g},(∀r c,r<n->c<n->(A r c).natAbs<=B r)->(det n A).natAbs<=bJ n*?lA
 | 0,A,B,_=>by show(1:Int).natAbs<=1*1;decide
 | n+1,A,B,h=>by
   rw[BL]
   have e:(?pB).natAbs<=?q*(B 0*(bJ n*?eA)):=N7 fun j hj=>by
    have d:=Vd (n:=n) (A:=Vu A j) (B:=?m0) fun r c hr hc=>by
     unfold Vu;exact h ?bB _ O9m (by split<;>omega)
    rw[qb0,qb0]
    have s:(Rr j).natAbs=1:=by
     unfold Rr;split<;>rfl
    rw[s,qf3];exact qf0 (h 0 j O9m hj) d
   refine qa6 e (ql0 ?_);show ?q*(B 0*(bJ n*?eA))=(?q*bJ n)*(B 0*?eA)
   grind
theorem PZ(B:?g):∀n,jK (fun r=>2*B r) n=?fM*?lA:=fun n=>by
 induction n generalizing B with
 | zero=>rfl
 | succ n ih =>
   show 2*B 0*jK (fun r=>2*B ?bB) n=?g0*(B 0*?eA);rw[ih ?m0,qg4]
   grind
theorem qA{B:?g}:∀{n:Nat},(∀r,r<n->0<B r)->0<?lA:=fun {n} h=>by
 induction n generalizing B with
 | zero=>exact Nat.one_pos
 | succ n ih=>exact Nat.mul_pos (h 0 O9m) (ih fun r hr=>h ?bB O9m)
theorem MA[?d0]:∀{n:Nat},(?cV f n).natAbs=jK (fun r=>(f r).natAbs) n:=fun {n}=>by
 induction n generalizing f with
 | zero=>rfl
 | succ n ih =>
   have e:∀m,?nV=f 0*?t3:=fun m=>by
    induction m with
    | zero=>show 1*f 0=f 0*1;omega
    | succ m im =>
      show ?nV*f ?e5=f 0*(?t3*f ?e5);rw[im,qe1]
   rw[e n,qb0,ih];rfl
section
variable[?wI]
theorem Td.stair{k w:Nat}{Q:Mat}{p:?g}(h:?lD):C8 w ?eF (fun i=>Q ?P) fun i=>p ?P :=
 ⟨fun j hj=>h.lt ?b5 O9m O9m,?y4 ?hP,fun j c hj hc=>?dW ?b5 c O9m O9m hc,fun j hj=>?bA ?b5 O9m O9m,?y4 ?fV⟩
theorem CG(st:?mC)(hB:?oI){r c:Nat}(hr:r<z)(hc:c<w):B ?c5 c=Ai (fun k=>L k ?c5*?bN) ?bB:=by
 rw[hB _ _ (?eC r hr) hc];exact ?jB O9m fun k h1 h2=>by rw[?dC k _ h2 (?cP r k ?e h2),qh6]
theorem GK[?mH]{i c:Nat}(hi:i<z)(hc:c<w):?d5<=?h7*2:=by
 refine i6 (R:=L) (B:=T) (t:=p) (a:=c) (i:=z) ⟨fun j k _=>?cP j k,?nR,?uX,fun k j _=>?dQ k j⟩ (?jA) i hi;rw[show Ai (fun k=>?bN*L k ?bY) z=B ?bY c by rw[hB _ _ ?eB hc];exact ?yR ?jP];have:=?gW;exact qa6 (b2 _ _ ?eB hc) (?j4)
theorem LC[?mH]:∀i,i<=z->∀s:?g,(∀l,l<i->s l<w+z)->(det i ?n1).natAbs<=?sH:=fun i hi s hs=>by
 let Z:Mat:=?n1
 let V:Mat:=fun r l=>?v6
 have e:det i V=?cV (fun j=>L j ?bY) i*?s9:=AH (T:=fun r j=>?j0) (fun r c _ _=>rfl) i ?l
 have e2:?s9=det i Z:=C7 fun r c hr _=>by
  show(if r<i then Z r c else V r c)=Z r c;rw[?o hr]
 rw[e2]at e
 have vle:∀r l,r<i->l<i->(?h4).natAbs<=2*?jU:=fun r l hr hl=>by
  have pr:=?rC;by_cases c1:s l<w
  . have:?h4=B ?c5 ?e1:=by
     rw[CG st hB ?e c1];exact Ag fun j _=>by show ?j0*?qU=_;rw[?bS c1]
    rw[this];exact qa6 (b2 _ _ (?eC r O9m) c1) O9m
  . have zv:∀j,Z j l=if j=?cE then 1 else 0:=fun j=>by
     show ?qU=_;unfold beside;rw[?j c1];rfl
    by_cases c2:?cE<r+1
    . have:?h4=L (?cE) ?c5:=by
       show ?v6=_;rw[?B c2 fun j _ ne=>by rw[zv,?hB,qe2],zv,?t,ql3]
      rw[this];rcases qg5 (?cE) r with q | q
      . obtain⟨r1,r2⟩:=?dQ (?cE) r q O9m;omega
      . rw[?xJ ?cE r];omega
    . have:?h4=0:=?X fun j hj=>by rw[zv,?v,qe2]
      rw[this];exact ?I
 have big:=Vd (B:=fun r=>2*?jU) vle;rw[e,qb0,MA,PZ]at big;have pos:0<?nZ:=qA fun r hr=>by have:=?rC;omega
 refine qq9 (c:=?nZ) ?_ pos;refine qa6 big (ql0 ?_)
 grind
universe e9
structure Lev(q m z:Nat)(D L G:Mat):Prop where
 st:∃p,?mC
 du:∀i j,i<z->j<z->Ai (fun c=>G i c*L j c) m=?h3
 cyc:∀i,i<z->?xU (L i)
 all:∀v:?h,(?xU v)->∀c,c<m->v c=Ai (fun i=>Ai (fun a=>?cI*v a) m*L i c) z
def gT(m:Nat)(G B:Mat):Mat:=fun i c=>?pM
section
variable{q m z w:Nat}{D L G B:Mat}
theorem Lev.first(m:Nat)(D:Mat):Lev 0 m m D one one:=by
 have d:∀i j,i<m->j<m->Ai (fun c=>one i c*?i3) m=?h3:=fun i j hi hj=>by
  rw[?B hi fun k _ ne=>?sC];unfold one;rw[?t,qd0];by_cases z:i=j
  . rw[?J,?o ?aB]
  . rw[?T,?j fun y=>z y.symm]
 refine⟨⟨fun i=>i,fun j hj=>hj,fun j k h _=>h,fun j c _ hc=>?j O9m,fun j _=>by show 0<one j j;unfold one;rw[?t];decide,fun k j hk _=>?_⟩,d,fun i _ x hx=>O9m,fun v _ c hc=>?_⟩
 . show 0<=one k j/\one k j<one j j;unfold one;rw[?v,?t];decide
 . rw[?B hc fun i hi ne=>by
    show _*one i c=0;unfold one;rw[?hB,qe2]]
   show v c=Ai (fun a=>one c a*v a) m*one c c;rw[?B hc fun a _ ne=>?sC];unfold one;rw[?t,qd0,ql3]
theorem Lev.told[?mK]:∀a c,a<m->c<w->?bM=Ai (fun i=>L i a*gT m G B i c) z:=fun a c ha hc=>by
 rw[h.all (fun a=>?bM) (tw c hc) a ha];exact Ag fun i _=>?jP
theorem wY(m w:Nat)(G B:Mat)(v:?h)(i:Nat):?iW=Ai (fun a=>?cI*?K w B v a) m:=by
 have e1:?iW=Ai (fun c=>Ai (fun a=>?cI*?bM*v c) m) w:=Ag fun c _=>by
  show ?pM*v c=_;rw[←Cv]
 rw[e1,Bw]
 exact Ag fun a _=>by
  show Ai (fun c=>?cI*?bM*v c) w=?cI*Ai (fun c=>?bM*v c) w;ext mO
theorem Lev.next{E k:Nat}[?d0]{P PB Q QB:Mat}{p:?g}[?mK][?w2](ir:?sF)(lo:?lD) :
 Lev m w ?eF B (fun i=>Q ?P) fun i=>QB ?P:=by
 have tl:=?f0 tw;have mw:=dg.mw;refine⟨⟨_,lo.stair⟩,fun i j hi hj=>?_,fun i hi x hx=>?_,fun v hv c hc=>?_⟩
 . have:=dg.dr ?b5 ?P O9m O9m;unfold pD at this;rw[show Ai (fun c=>?qQ*Q ?b5 c) w=Ai (fun c=>Q ?b5 (0+c)*?qQ) w from Ag fun c _=>by rw[qo8,qf9],this];by_cases z:i=j
   . rw[?J,?eP]
   . rw[?T,?v]
 . have t0:=dg.spare il (y:=k+i) O9m O9m
   have e:?r6=Ai (fun a=>L a x*?K w ?eG (Q ?P) a) z:=by
    have e1:?r6=?xN (fun a=>L a x*?pA*?gG) w:=Ag fun c hc=>by
     rw[tl x c hx hc,←Cv]
    rw[e1,Bw]
    exact Ag fun a _=>by
     show _=L a x*Ai (fun c=>?pA*?gG) w;ext mO
   rw[e];exact ?yN t0
 . have t0:∀i,i<z->?iW=0:=fun i _=>by
    rw[wY];exact ?yN hv
   rw[dg.madeS ir t0 c hc];exact Ag fun i _=>by rw[show ?lG=Ai (fun a=>?t4*v a) w from ?xH ?jP]
universe e9
section
variable{q m z w k E:Nat}{D L G B P PB Q QB:Mat}[?d0]
def turnL(z:Nat)(P L:Mat):Mat:=fun i c=>Ai (fun j=>P i j*L j c) z
theorem Lev.gauge(h:?uV)(dl:Fb z 0 P PB){i j:Nat}(hi:i<z)(hj:j<z):?kN=?h3:=by
 have e1:?kN=Ai (fun a=>P i a*?hK) z:=by
  have:?kN=?xN (fun a=>P i a*(?eK*?gB)) m:=Ag fun c _=>by
   show Ai (fun a=>P i a*?eK) z*?gB=_;rw[←Cv];exact ?xH ?j1
  rw[this,Bw];exact ?xH ?pZ
 have e2:∀a,a<z->?hK=PB j a:=fun a ha=>by
  have:?hK=Ai (fun b=>?jR*Ai (fun c=>?rB) m) z:=by
   have:?hK=?xN (fun b=>?jR*(?rB)) m:=Ag fun c _=>by
    show ?eK*Ai (fun b=>?jR*L b c) z=_;rw[←Ay];exact ?yS ?a9
   rw[this,Bw];exact ?yS ?pZ
  rw[this,?B ha fun b hb ne=>by rw[h.du a b ha hb,?j ?lP,qe2],h.du a a ha ha,?t,ql3]
 rw[e1,Ag fun a ha=>by rw[e2 a ha]];have:=dl i j hi hj;ext vW
theorem Lev.filling[?mK][?w2]{i:Nat}(hi:i<k):∀a,a<m->?lH=f i*turnL z PB L i a:=fun a ha=>by
 have mn:=dg.mn;have mw:=dg.mw;have tl:=?f0 tw
 have tq:∀x,x<z->?K w ?eG (Q i) x=f i*PB i x:=fun x hx=>by
  have e:∀y,y<z->?pE=0:=fun y hy=>by
   have e1:?pE=Ai (fun b=>P y b*?gI+-?eJ*(P y b*PB i b)) z:=?yS ?a9
   have e2:Ai (fun b=>P y b*PB i b) z=if y=i then 1 else 0:=by
    have:=dg.dl y i hy O9m;ext vW
   rw[e1,Cd,Ay,e2,←Y0,dg.diag y i hy ?e];by_cases q:y=i
   . rw[?eD,?eD,q];omega
   . rw[?cQ,?cQ];omega
  have:=gS (u:=fun b=>?gI-f i*PB i b) il e x hx;show _=_;omega
 have e1:?lH=Ai (fun b=>L b a*?gI) z:=by
  have:?lH=?xN (fun b=>L b a*?qZ*Q i c) w:=Ag fun c hc=>by
   rw[tl a c ha hc,←Cv]
  rw[this,Bw]
  exact Ag fun b _=>by
   show _=L b a*Ai (fun c=>?qZ*Q i c) w;ext mO
 rw[e1];show _=f i*Ai (fun j=>PB i j*L j a) z;rw[←Ay];exact Ag fun b hb=>by rw[tq b hb];grind
universe e9
universe Lat
namespace Hb
open Lat
def kB(n:Nat):Nat:=?rE (?jO)+1
def mV(f:?g):?g
 | 0=>f 0
 | n+1=>max (f ?q) (mV f n)
def kP(b i:Nat):Nat:=max b (?rE (?l3)+1)
def kS[?H]:Nat:=?l6+6
def bookF:Nat:=27000000
def Ah0[?H]:Bool:=mJ n w ?q ?hO ?gX (kB n+n+8) (?l6) (kS n w) (kS n w+w+2) (?yT ?hO n) (?yT (?l6) w) bookF
theorem RY:(Y5 41 fun n=>Y5 (41-n) fun w=>Ah0 n w)=true:=?qN
theorem xC:∀{i n:Nat},i<=n->?sH<=?jO:=fun {i n} h=>by
 induction n with
 | zero=>rw[?qG];ext Z
 | succ n ih =>
   by_cases e:i=n+1
   . rw[e];ext Z
   . refine qa6 (?bI) ?_;show ?jO<=?q*bJ n*?g0;exact qf0 (ql7 _ O9m) (?jL)
theorem lC[?wI][?mH](h:z+w<=40):Zg z w T (xU z w (2 ^ kB z) bookF (kS z w) T):=by
 have P:=MI (Kg (Kg RY z O9m) w O9m);refine zV P (fun i c hi hc=>?_) fun i hi s hs=>?_
 . refine qa6 (GK st hB b2 hi hc) ?_;rw[←qg4];exact ?jL
 . refine qa6 (LC st hB b2 i hi s hs) (qa6 (xC hi) ?_);exact qd4 Nat.lt_log2_self
universe Hb
namespace Hb
open PySem L2
noncomputable abbrev Ms:=?aA (?aS)
def nd(ms:Ms):Prop:=(?bR (·.1)).Nodup
def nz(ms:Ms):Prop:=∀p∈ms,p.2≠0
def Im(ms:Ms)(k n:Int):Ms:=if ?fB+n=0 then ?fH else putI ms k (?fB+n)
def Gj(ms ns:Ms):Ms:=ns.foldl (fun acc p=>Im acc p.1 p.2) ms
def Tf(n:Int)(ms:Ms):Ms:=if n=0 then [] else ?bR fun p=>(p.1,n*p.2)
def Rj(ms:Ms):Ms:=ms.filter fun p=>?Q (p.2≠0)
theorem T5[?iH](h:?l5=?c v):?gU∈ms:=by
 induction ms with
 | nil=>simp[Dg]at h
 | cons p ms ih =>
   rw[Db]at h;by_cases e:?fX
   . rw[?i0]at h;have:p=?gU:=by cases p;simp_all
     rw[this];exact qe4 ..
   . rw[?j e]at h;exact qc7 _ (ih h)
theorem JU{ms:Ms}{k:Int}(h:k ∉ ?bR (·.1)):?l5=none:=by
 cases e:Dg ms k with
 | none=>rfl
 | some v=>exact ?b9 (qn1 (f:=(·.1)) (T5 e)) h
theorem DN[?cZ]{p:?aS}(hp:p∈ms):Dg ms p.1=?c p.2:=by
 induction ms with
 | nil=>cases hp
 | cons q ms ih =>
   rw[Db];unfold nd at h;rw[qd5,qi2]at h;rcases qb6.mp hp with rfl | hp
   . rw[?t]
   . have:¬q.1=p.1:=fun z=>h.1 (by rw[z];exact qn1 (f:=(·.1)) hp);rw[?j ?W];exact ih h.2 hp
theorem L7{ms:Ms}{k:Int}(h:k ∉ ?bR (·.1)):?fB=0:=by unfold Cz;rw[JU h];rfl
theorem L8(p:?aS)(ms:Ms)(k:Int):Cz (p::ms) k=if ?fX then p.2 else ?fB:=by
 unfold Cz;rw[Db];split<;>rfl
theorem MY:∀(l1 l2:?cT),l1.Nodup->(∀x∈l1,x∈l2)->l1.length<=l2.length
 | [],l2,_,_=>?I
 | x::l1,l2,h,hs=>by
   rw[qi2]at h;have hx:=hs x (qe4 ..)
   have:=MY l1 (l2.erase x) h.2 fun y hy=>by
    have ne:y≠x:=fun z=>h.1 (z▸hy);exact(List.mem_erase_of_ne ne).mpr (hs y (qc7 _ hy))
   have e:=List.length_erase_of_mem hx;have:0<l2.length:=List.length_pos_of_mem hx;rw[qc8];omega
theorem qS[?cZ](k:Int):nd (?fH):=by
 unfold nd Hl at *;ext w0
theorem qO{ms:Ms}(h:?h2)(k:Int):nz (?fH):=fun p hp=>h p (qk7.mp hp).1
theorem Wg{ms:Ms}{k:Int}:(ms.any fun p=>?Q (?fX))=true↔k∈?bR (·.1):=by
 rw[qm8,qf8];constructor
 . ext vZ
 . ext vZ
theorem vY[?cZ](k v:Int):nd (?cH):=by
 unfold nd putI at *;split
 . rw[ql1]
   have e:((fun p:?aS=>p.1) ∘ fun p:?aS=>if ?fX then(p.1,v) else p)=(·.1):=by
    funext p
    simp only[Function.comp];split<;>rfl
   rw[e];exact h
 . rename_i hn
   rw[Wg]at hn;rw[qb1,qv8];refine⟨h,?hE,fun a ha b hb e=>?_⟩;have:b=k:=by simpa using hb
   exact hn (by rw[←this,←e];exact ha)
theorem HX[?iH]{p:?aS}(hp:p∈?cH):p∈ms\/p=?gU:=by
 unfold putI at hp;split at hp
 . obtain⟨q,hq,e⟩:=qf8.mp hp;by_cases z:q.1=k
   . rw[?J]at e;right;rw[←e,z]
   . rw[?T]at e;left;rw[←e];exact hq
 . rcases qn9.mp hp with h | h
   . exact ?gN
   . exact ?L (by simpa using h)
theorem QX(ms:Ms)(k v:Int):?z2 ?cH ?s2:=by
 unfold putI;split
 . rw[qa2];omega
 . rw[qc0];simp
theorem mZ(ms:Ms)(k:Int):?z2 ?fH ms.length:=qg6 ..
theorem vO{ms:Ms}(h:?h2){k v:Int}(hv:v≠0):nz (?cH):=fun p hp=>by
 rcases HX hp with q | q
 . exact h p q
 . rw[q];exact hv
theorem MS[?cZ](k n:Int):nd ?fT:=by unfold Im;split;exact qS h k;exact vY h k _
theorem MM{ms:Ms}(h:?h2)(k n:Int):nz ?fT:=by
 unfold Im;split
 . exact qO h k
 . rename_i q;exact vO h q
theorem aY(ms:Ms)(k n:Int):?z2 ?tL ?s2:=by
 unfold Im;split
 . have:=mZ ms k;omega
 . exact QX ..
theorem iF(ms:Ms)(k n j:Int):Cz ?fT j=if j=k then ?j8+n else ?j8:=by
 unfold Im;split
 . rename_i q
   unfold Cz at *;rw[FO];by_cases e:j=k
   . subst e;simp;omega
   . simp[e]
 . unfold Cz at *;rw[jU];by_cases e:j=k
   . subst e;simp
   . simp[e]
theorem HM:∀(ns ms:Ms),nd ms->?h2->nd ns->nd ?eY/\nz ?eY/\?n4/\∀j,Cz ?eY j=?j8+Cz ns j
 | [],ms,h1,h2,_=>⟨h1,h2,?nX,fun j=>by simp[Gj,Cz,Dg]⟩
 | p::ns,ms,h1,h2,h3=>by
   unfold nd at h3;rw[qd5,qi2]at h3;obtain⟨r1,r2,r3,r4⟩:=HM ns (Im ms p.1 p.2) (MS h1 _ _) (MM h2 _ _) h3.2;refine⟨r1,r2,?_,fun j=>?_⟩
   . have:=?nT;ext w1
   . show Cz (?tP) j=_;rw[r4,iF,L8];by_cases e:j=p.1
     . have:=L7 h3.1;subst e;simp[this]
     . have e':¬p.1=j:=?j5;simp[e,e']
theorem Aa7[?cZ]:nd (Rj ms):=by
 unfold nd Rj at *;ext w0
def inK(ms:Ms):Prop:=∀p∈ms,0<=p.1/\p.1<40
theorem fK[?cZ](n:Int):nd (?bR fun p=>(p.1,n*p.2)):=by
 unfold nd at *;rw[ql1];exact h
theorem dO:∀(ns ms:Ms),?n4
 | [],ms=>?nX
 | p::ns,ms=>by
   have h1:=dO ns (Im ms p.1 p.2);have h2:=?nT;ext w1
theorem jL{ms ns:Ms}{i:Nat}{q:?aS}(h:?y8 ns q):Gj ms (ns.take ?p)=Im (Gj ms (ns.take i)) q.1 q.2:=by
 unfold Gj;rw[qr3,h,qr5];rfl
theorem KQ{ms:Ms}{i:Nat}{q:?aS}(hq:?y8 ms q):Rj (ms.take ?p)=if q.2=0 then Rj (ms.take i) else Rj (ms.take i)++[q]:=by
 unfold Rj;rw[qr3,hq,qh4];by_cases e:q.2=0<;>simp[e]
theorem qY(ms:Ms):(Rj ms).length<=ms.length:=qg6 ..
section
variable{H H1:Hp}{a:Addr}[?iH]
theorem iG(rd:?oM):DGet H a (?m k) ((?l5).map ?cC):=?u ⟨?aI,?u k,rd,rfl,(oF ms k).symm⟩
theorem rO(h:?y9 H a)(hl:?qI):xX H a (?m k) (?m v) (upd H a (.dK (cK (?cH)))):=by
 rw[←xM];exact ?u ⟨?aI,?u k,h,rfl,by unfold cK;rw[qa2];exact small hl,rfl⟩
theorem Yx{i:Nat}{kk:Key}{x:V}(h:?y8 (?aI) (kk,x)):∃p:?aS,?y8 ms p/\kk=?u p.1/\x=?m p.2:=by
 unfold cK at h;rw[qa9]at h;cases e:ms[i]? with
 | none=>rw[e]at h;cases h
 | some p =>
   rw[e]at h;have:=qd3 h;simp only[Prod.mk.injEq]at this;exact⟨p,rfl,this.1.symm,this.2.symm⟩
theorem Rk:(?aI).length=ms.length:=by unfold cK;rw[qa2]
theorem uS{o:HO}(h:H a=?a0):upd H a o=H:=by
 funext b
 by_cases e:b=a
 . rw[e,Ab,h]
 . rw[Al e]
theorem DS{x:HO}{D:Addr}(h:(upd H a x) D=none):?i1/\D≠a:=by
 have n:D≠a:=fun z=>by rw[z,Ab]at h;cases h
 rw[Al n]at h;exact⟨h,n⟩
theorem PU{o:HO}{b:Addr}(s:?jG)(h:Rd H b o):Rd H1 b o:=by
 rcases h with h|⟨q,h⟩
 . exact ?u (s _ _ h)
 . exact ?L ⟨q,s _ _ h⟩
universe e9
theorem put_new[?iH](h:k ∉ ?bR (·.1)):?cH=ms++[?gU]:=by
 unfold putI;rw[?j (fun z=>h (Wg.mp z))]
def VO(H:Hp)(ms:Ms)(Q:V->?m7):Prop:=∀(D:Addr) (H':Hp),?i1->?aD->?y9 H' D->?nO
section
variable[?aW]
def Pf(_K:W.Frag):Sp:=fun vs H Q _=>Qm fun ?u2 (ms:Ms) (k n:Int)=>B6 (vs=[?f a,?m k,?m n]) (?y9 H a) (?qI) (Q .non (upd H a (.dK (cK ?fT))))
def HA(_K:W.Frag):Sp:=fun vs H Q _=>Qm fun(a b:Addr) (ms ns:Ms)=>Kh (vs=[?f a,?f b]) (?oM) (H b=?c (.dK (cK ns))) (ms.length<=1000) (ns.length<=1000) (VO H ?eY Q)
def cH(_K:W.Frag):Sp:=fun vs H Q _=>Rs fun(n:Int) ?u2 (ms:Ms)=>Ed (vs=[?m n,?f a]) (?y9 H a) (ms.length<=1000) ((∀p∈ms,?hX n p.2)) (VO H (Tf n ms) Q)
universe e9
universe Hb
namespace Hb
universe Hb
namespace Hb
open PySem L2
theorem Kq{α:Type}{l:?e8}{i:Nat}{d:α}:?uU∈l\/?uU=d:=by
 rw[qa4];by_cases h:i<l.length
 . rw[qa0 h];exact ?u (qe8 h)
 . rw[qg7 ?e];exact ?L rfl
section
variable{K:W.Frag}{H:Hp}
universe e9
section
variable[?aW]
universe e9
universe Hb
namespace L2
open PySem PySem.Spec PyProof.Rows
open AutoSeq1 (wpAny_loadPart')
theorem kJ(t:Addr)(vs:?jD)(n:Nat)(dd:OAddr)(sl:Qo):Meets (Builtin.«enumerate.__new__» ⟨[?kU,?f t],[]⟩) (fun _ R s=>?tT t=?c { cls:=?dP,dict:=dd,data:=?oN,slots:=sl } ∧
 R (.ok (.ret (?f ?u9))) { s with heap:=(?gO).push ?m8 }) :=
 .of_wp fun prog w A R s h=>by
  obtain⟨hp,g,d,tk,os⟩:=s;obtain⟨q1,q2⟩:=h;have hsub:=sub_enumerate;have gt:Heap.IsTuple (Shared.heap ⟨hp,g,d,tk,os⟩) t vs:=⟨_,q1,rfl,n,rfl⟩
  wp_walk using wpAny_loadPart' q1
  refine wpAny_stack_any fun st=>qc1 ?_;split
  . rename_i c _ _ _ _ _
    cases (c==Value.type ?k7)
    . ext mN
      exact ?iY
    . ext mN
      exact ?iY
  . ext mN
    exact ?iY
section
variable{prog:Program}{w:World}{A:Around}{E:?jT}{s:Shared}
theorem FY[?mP]{x old:Value}{Q:?jT}[?mJ](gx:?pX)(ne:e≠j)
 (k:∀h',?pJ->?sZ->?x7 x->?qK →
   ?yC ?f ?a1) :
 ?xL (Builtin.«enumerate.__next__» ⟨[?f e],[]⟩) (fun fin s'=>∃r,fin=.done (.ret r)/\Q r s'):=by
 obtain⟨hp,g,d,tk,os⟩:=s;ext vO;refine qa7 (Ix gj gt gx fun k1 gj1 w1=>?_)
 replace w1:?cA j hp k1:=w1
 have ge1:?yB k1 n:=(w1.2 e ne).trans ge;show ?xC 3 ?iO;refine qa7 (qh0 ge1 rfl (x:=?m2 n) rfl ?_);show ?xC 4 ?iO;refine qa7 (qh0 ge1 rfl (x:=?bE) rfl ?_);show ?S _ _ (mkInt n>>=_) _ _ ?iO;refine qa7 (wpAny_mkInt ?_);show ?S _ _ (?q5 ?aN 3 (?m2 ?bF)>>=_) _ _ ⟨k1,g,d,tk+1,os⟩;refine qa7 (qh9 ge1 ?d8 fun k2 ge2 w2=>?_)
 replace w2:?cA e k1 k2:=w2
 replace ge2:?yB k2 ?bF:=ge2
 show ?wW (?q5 ?aN 4 ?bE>>=_) k2;refine qa7 (qh9 ge2 ?d8 fun k3 ge3 w3=>?_)
 replace w3:?cA e k2 k3:=w3
 replace ge3:?yB k3 ?bF:=ge3
 show ?wW (newTuple [?sT,x]>>=_) k3;refine qa7 (wpAny_newTuple ?_);have ge4:?yB (?t1) ?bF:=qa5 _ ge3;generalize NI:?t1=k4 at ge4;have sz:k3.objs.size=hp.objs.size:=by rw[w3.1,w2.1,w1.1]
 have le:e<hp.objs.size:=qb2 ge;have gt4:k4.get? ?gV=?c ?tB:=by rw[←NI,←sz];exact ?kH
 have sz4:k4.objs.size=hp.objs.size+1:=by rw[←NI,qi0,sz]
 have kp4:∀b o,b≠e->b≠j->hp.get? b=?a0->k4.get? b=?a0:=fun b o n1 n2 q=>by
  rw[←NI];exact qa5 _ (?rN b o n1 (?o4 b o n1 (w1.extBut b o n2 q)))
 have gj4:k4.IsTupleIter j t ?q:=by
  rw[←NI];obtain⟨o,q,r⟩:=(gj1.extBut ?o4 ?dA).extBut ?rN ?dA;exact⟨o,qa5 _ q,r⟩
 show ?wW (Builtin.SmallTypes.ownedTupleIsFree ?aN>>=_) k4;rw[sz];clear NI ge3 w3 ge2 w2 ge1 w1 gj1 sz k3 k2 k1;refine qa7 ?_;unfold Builtin.SmallTypes.ownedTupleIsFree;refine qa7 (qh0 ge4 rfl (x:=?bE) rfl (qc1 ?_));simp only[if_true];refine qa7 (wpAny_rule ?_);refine qa7 (qh0 ge4 rfl (x:=old) rfl ?_);refine qa7 (qh9 ge4 ?d8 fun k5 ge5 w5=>?_)
 replace w5:?cA e k4 k5:=w5
 replace ge5:?b8 k5 e j ?bF x:=ge5
 show ?wW (Builtin.SmallTypes.ownedTupleHandOut ?aN (?f ?gV)>>=_) k5;refine qa7 ?_;unfold Builtin.SmallTypes.ownedTupleHandOut;refine qa7 (qh9 ge5 ?d8 fun k6 ge6 w6=>?_)
 replace w6:?cA e k5 k6:=w6
 replace ge6:?mD k6 e j ?bF x ?gV:=ge6
 refine qh9 ge6 ?d8 fun k7 ge7 w7=>?_
 replace w7:?cA e k6 k7:=w7
 replace ge7:?mD k7 e j ?bF x ?gV:=ge7
 refine qa7 (wpAny_letGo (qc1 ⟨_,rfl,k k7 ge7 ?_ ?_ ?_ ?_⟩))
 . exact((gj4.extBut ?lN ?dA).extBut ?j9 ?dA).extBut ?kY ?dA
 . exact ?kY _ _ (qk1 le) (?j9 _ _ (qk1 le) (?lN _ _ (qk1 le) gt4))
 . rw[w7.1,w6.1,w5.1,sz4]
 . exact fun b o n1 n2 q=>?kY b o n1 (?j9 b o n1 (?lN b o n1 (kp4 b o n1 n2 q)))
theorem Vt[?mP]{x old:Value}[?wK][?mJ](gx:?pX)(ne:e≠j)
 (k:∀h',?pJ->?sZ->?x7 x->?qK →
   ?yC ?c (?f ?a1)):?uQ:=by
 ext vY
 unfold pyNext;exact qa7 (?wQ (FY ge gj gt gx ne fun h' a b c d q=>qc1 (k h' a b c d q)))
theorem Xt[?mP]{old:Value}[?wK](hn:A.handled=none)[?mJ](gx:vs[n]?=none)
 (k:∀h',Heap.ExtBut j ?lC h'->Q ?G ?pN):?uQ:=by
 ext vY
 unfold pyNext;refine qa7 (?wQ ?_);ext vO;refine qa7 (Ot hn gj gt gx fun h' x he hx=>?_);obtain⟨o,q1,q2⟩:=hx;exact qa7 (wpAny_isInstance (T:="StopIteration") (b:=true) ⟨o,q1,q2⟩ isSubtype_stop (qc1 (k _ he)))
theorem GI{t:Addr}{vs:?jD}{Q:?jT}(gt:?pV)
 (k:∀h',?b8 h' (?dR) ?a1 0 ?bE->?vF ?a1 t 0->h'.objs.size=s.heap.objs.size+2->(∀b o,?jH)->Q (?f (?dR)) ?pN) :
 ?xL (call (?kU) [?f t]) Q:=by
 obtain⟨⟨c,dd,dt,sl⟩,q,qc,n,qd⟩:=gt
 replace qc:c=?dP:=qc
 replace qd:dt=?oN:=qd
 subst qc qd;refine callType_new F.called_enumerate ?bH (F.typeCall_enumerate_1 _) (F.newCall_enumerate_1 _) (fun obj=>F.args_object_init_2 obj _) F.entry_enumerate_new (kJ t vs n dd sl) ⟨q,?_⟩;have z1:?u9=?dR:=qi0 ..;show _/\_;rw[z1]
 have ge:?b8 ((?gO).push ?m8) (?dR) ?a1 0 ?bE:=by
  have:=qb7 (?gO) (o:=?m8) rfl;rw[z1]at this;exact this
 exact⟨?vG,k _ ge ⟨_,qa5 _ (?kH),rfl,rfl⟩ (by rw[qi0,z1]) fun b o x=>qa5 _ (qa5 _ x)⟩
end
mutual
#check(5,[?a,?b,some,.int,?C Int,if_neg,?C V,?C Str,.(by ext k),.inl,.(by decide +kernel),if_pos,.ref,G σ H,xs.getD,∀{G:?gP},a,decide,.inr,.lst,(by omega),Nat->Int,∀(K:W.Frag),a,G σ,∀{G:?xI St},a,Same,?m a,(xs:Ar),?l rfl,List,.tup,?y H H',?xI Hp,V.int,(?eF),∀{K:W.Frag},a,?xU 0,(pv 0),a.fdiv b,(xs.length:Int),∀(φ:?h6),a,ms.map,?xB ms,_::_,Iw fs e i,qf8.mp,(k:Int),absurd,(LT K H (?z) xs),(pv 2),?f h,?d i,∀(xs:Ar)(k:Int),a,?C Bv,(?hK),Cz ms k,G s H,(pv 1),base,qa3.mp,(fun _ _=>rfl),?f z1,?l h,Ez xs k,xs.length,H D=none,∀{A0 A1:Type}{S:A0->A1->St},a,∀{ls:?f5},a,∀(ps:?a0),a,x.getD 1 0,(n:Int),(0:Int),Same.new,i<k0,.(by ext aZ),sumN_one,"number",(?J),?C Ms,ρ i a,(?b3),sp.getD m 0,none,Int × Int,?l z1,(?bJ),∀{A0:Type}{S:A0->St},a,∀{xs:Ar}(hs:?dR),a,.(by simpa using h1),H' D,p0 x0 x1,Q ?j7 H',qa1 _,p::ms,?m b,⟨_,rfl⟩,(pv 3),"place",?xJ p0,(i+1),(?gW),?f z2,(Bj (K:=K)),?w6 us,(?h8),(i:Int),bookF,sumN_all0,.(by decide),∀{A0 A1 A2:Type}{S:A0->A1->A2->St},a,.(by rw[qa4,?hM]),∀(ls:?f5),a,.(by split<;>omega),?m p,?f ?t,(?f6),h.join,?d k,.non,x.getD 0 0,Lat.Bits,?c ps,(.dK (?e0)),lot.getD,nd ms,face,r K=K,p.toNat,a<?J,r a=K,(a:Addr),(σ=?iD),?l e,?l z2,∀{A0 A1 A2 A3:Type}{S:A0->A1->A2->A3->St},a,∀{xs:Ar}{k:Int},a,∀{l:?e},a,qe8 _,2*(?f1),Cp.nd,?xP p0,fun Ds A outer s H vs Q E hr h=>?_,HF n i,(a b:Addr),"shape",F.okZ,?c o,x.length=2,(r a),(k+1),(?e4),p.1=k,FnScope,qa0 O9m,?l z,"enumerate",(?i0),p1 x0 x1,s.heap.objs.size,?x7 (fun a=>?sQ*?kL),(?h9).getD,fs.getD i 0,Bz H vs ps,(j:Int),(hr a ha),?m c,A0->?F,(Em xs ms),(p0 x0 H),g i a,(?hI),fun z=>?_,this,?xJ p1,∀(T:Fp K mg Ah Ad Aj Aw),a,∀{vs:?g}{ps:?a0},a,∀{f:Addr}{fd:FuncData},a,∀(fs:?e)(n:Int),a,∀(xs:Ar)(ms:Ms),a,∀{vs:?g},a,?xU ?cO,Lat.one,List.replicate,Lat.turnL,?C Value,(?d0),fun z=>O9m,?w3 S,C9 xs,?f e,(Bn _),g i x,Ty (?e2) e,p::ps,P i j,Nat->Nat,p1  x0 H,cK ms,?yC A0 A1,?o ?c2 [],?w1 S,σ=?iW,(?aA).length,IteT K a,?iB hi,a.toNat,(O9m),(p1 x0 H),(?eZ),(?lJ),φ p.1,let s:=?iW;G s,.(by rfl),Hj H v p,(n+1),Ma φ v n,(ms:Ms),(?dR),(1:Int),Lat.Mat × Lat.Mat,?x7 (T i),vs[i]?=?c v,[?d a,?d x,?d y],v::vs,Nat->?u,?bY (?aG).toNat 0,let s:=(S x0);?a3,Dy K H a xs,(?mN),p0  x0 H,∀{xs:Ar}(h4:?lB),a,∀(lf:?aP),a,?xU ?T,[?d (a-?L*b),?d (x-?L*u),?d (y-?L*v)],?bG%2,Q y c',?l y0,A0->A1->A2->A3->?F,?C (?a0),Hh ms fs n i,(?xU 1),QB y c,Dx Ls _ ?t,TI.get,(upd H D o),let s:=?iD;G s,.cons,Ai (fun y=>?k6*?f8) w,?r h,?aI+?d2,.of Ab,?cZ a 0,?eI<n,?c q,?o i [],Hl ms k,Nat->?gP,?l y1,c.toNat,(?y1 p0),p2  x0 H,p<?M,?f y0,its.toArray,p.1.toNat,?w3 p2,p.getD i 0,lot.map,.(by grind),?w3 p1,?o ?fV [],?xJ p2,[(p,1)],qa8 _,(φ a),A0->?yC A1 A2,z2.symm,Ez xs 1,(?y1 p1),(?jP ?G),ms[i],ms.getD i (0,0),fun _=>0,Option,fun k _ ne=>?kY,(φ i),(vs=[?z]),qd8.mpr,List.range,?xZ p0,?f z,(ls:?f5),Pn _ ?t,?d p,St->?F,hu x hx,(v:V),?a2+n,z.symm,(p2 x0 H),fun _ z=>?uB,?xU k,V.ref,?jS=?c x,?c p,Dx Gs _ ?t,?l hi,?wH p0,"row",A0->A1->?F,fs.length,Int->Int,Pk lot x,?xA 40,Ez xs 0,Ez xs (k-1),?xP p1,V9 ps,?xU (?d2+1),["piece"],p.2.2.2,let s:=(?iW);?a3,.(by simpa using e),Mc xs ms i,let s:=(?jL);?a3,.(by simp),p.1=1,qa0 ?t,QB i c,?f y1,"chain",?x6 p0,Zh K C B p xs ls,?wK p1,numAt f k0 i,?wK p0,?w3 p0,.none,x=r a,A0->A1->A2->?F,let s:=(?iD);?a3,σ=S x0,Dx zs _ ?t,IntMulOk,qe0 ?aR,p2 x0 x1,(?e2).length,Em xs ?g3,fun p hp=>?_,.str x,ns.length,?y5 p0,qd8.mp,Iw fs k i,?xJ S,.(by cases h),.bl b,p.getD j 0,∀{z k0:Nat}{L G:Lat.Mat}{f:?u}{l r:?eM},a,∀{prog:Program}{w:World}{A:Around}{E:?pA},a,.(by refine ite2 (fun h1=>?_) (fun h1=>?_)),∀(s:Qj b H H1)(hb:H b=?c (.dK m)),a,.(by rcases qb6.mp hb with rfl | hb),.(by unfold nd at h;rw[qd5,qi2]at h),∀{Ac:Bg}{σ:St}{H:Hp}{s:Shared},a,.(by split<;>split<;>omega),∀(φ:?u)(v:Int),a,∀(D:Addr) (H':Hp),a,∀(h:Fn D H vs ls),a,∀{ms:Ms}(h:?bZ),a,∀(fs:?e),a,∀(s:?E),a,xs[f.toNat]?,S x0 x1,(0<=k),sp.length,.(by rw[Al ne];exact h),Q ?bT H',"width",2 ^ 10,sp.map,p3  x0 H,show ?eL-1=0 from rfl,qs7.mpr,(?m D),(us:?g),"bool",?sN f k0 i,fun D hD=>?_,p∈?aA,(p:Addr),?c (?z),?bY (?bU).toNat 0,(k0+i),kk b o (aV b hb).1 (aV b hb).2 z,"other",e.symm,(o4 o5:?gE V),?xP S,Pv i σ H,H a=?bE/\?tN,(L N:Addr),ns.map,[?d (-a),?d (-x),?d (-y)],?vY Gb k,xs[i]?,?o f.toNat [],F.binds hb,Lat.EuI,[?aN,?hP],?s ds,?f ?lA,?x6 p1,?x3 ?pB,fun b hb=>?_,Pv ?bA,?wK p2,mulV w B (u a) x,Ai f a,?wG ?f2,.bool b,(?m C),?iB hj,?wH p1,?aI+1-2*(?nY%2),l.getD,r.length,?aJ hD,[e,it],if ?jA=0 then [] else RW xs ?cO (r.1 i),(xF e),[?d b,?d u,?d v],?S hp,q.1<?M,B a c',p.2.2.1,Im ?bQ ?dO (?cH),Ty [x,y] e,hasDict_toPDs ds,hfresh,fun q hq=>?_,.(by simpa using hb),i.toNat,i<=xs.length,Nz xs k n,(zs k),q.1.toNat,?f ne,.(show(?bG).toNat=i by omega),(if x=a then 1 else 0)-(if ?hX then 1 else 0),O c=none,qe8 hj,let s:=?jL;G s,Ai _ i,(B:Hp),?aI+?bG,i<=ms.length,Bz.put,∃z L G,?yF 4,fun z=>ne ?gT,∀x∈xs,x.length<=4,?gI O9m,qa0 hj,"__init__",Lat.sumN_one,Lat.mulV,?D ds,?o ?p8 [],σ=?jL,if ?c4 then g i K*?aQ else 0,i*n.natAbs,2 ^ bookF,By P w K mg ?a5 En k f fd ps sp,Jr _ _,B9 ?a1,EM ?aB,A0->A1->?yC A2 A3,Str->?gE Value,Jn xs a b,qk7.mp,∀(xs:Ar)(k:Int)(z k0:Nat)(L G:Lat.Mat)(f:?u)(l r:?eM),a,∀(F3:∀i,i<m->∀c,c<w->?x7 (fun a=>?d8*B a c)=?hT*?hN),a,.(by have e:?gC=?gB:=?uK),∀{A0 A1 A2 A3 A4 A5 A6 A7:Type}{S:?w5 St},a,∀(h1:∀K,K<m->∀c,c<w->?x3 ?uI=0),a,∀(F4:∀i,?aK->∀a,a<m->mulV w B (Q i) a=f i*?aQ),a,∀{P:Program}{w:World}{K:W.Frag}{mg:?lS},a,∀{A0 A1 A2 A3 A4:Type}{S:A0->A1->A2->A3->A4->St},a,∀{sp ns:?e}(hl:ns.length=sp.length),a,.(by obtain⟨its,rv,p,hz⟩:=I.tuple hq),∀{st:Stmt}{ps:?h}{k:Nat}{sp:Sp},a,.(by have z:b=it:=?kS),∀(ns:?e)(lo hi:?gE Int),a,.(by unfold lev at la;simp at la),.(by unfold lev at lb;simp at lb),∀(hD:H D=?bE),a,∀(D:Addr) (us:?g),a,∀{α:Type}(g:Nat->α),a,∀{a:Addr}{xs:?g},a,∀{f:?eR},a,.(by rw[qa4,hx];rfl),fun n hn=>?_,.(show k+1-1=k by omega),"shared_divisor",List.filter_cons_of_pos,.(by rw[Al (Sj c _ q)];exact q),?yF n,j<l.length,toPDs ds,(?fY ?G),⟨c,q1,e0,e⟩,fun i=>f (k+i),?w1 p2,T.n_isinstance,?x7 (fun a=>?aQ*?k4),qa6 bl.zm (qa6 (Ff _ _ _) N4),?vQ S Qp,?w2 S,?vQ p3 Qp,?bY ?fP 0,hall2 i' O9m,(pI d).hasDict,∀x0 x1,?eE,?w1 p1,if ?c1 then g i K*?k0 else 0,fun n=>?qF,s _ _ (fun z=>by rw[z,hb]at h;cases h) h,?w3 p4,List.map_id,Ma φ ?g5 ?aO,t.nx j O9m,Iw fs f i,Bk X Ac σ H s,b≠e/\b≠it,(?u8 φ ?aO).length,Bool->?F,pos i hi,p4  x0 H,?iC+1-?cD,dP (Qd xs),?aA++Ez xs l,?x2 i,ms.length,?xU (k-1),?lG ?f7 ?pC u x,?vQ p6 Qp,∀x0,?tH,?xP p2,let u3:TS:=?sF;?rM,T.n_range,Dx rp _ e,fun x hx=>?_,fun i=>r.1 ?jG,?o ?kX [],j<p.length,((0:Nat):Int),fun j hj=>?_,let u4:TS:=?pX;?o4,upd (?wC 0) N0 (?D [?gO,?d 0,?d 1]),readsAll_of,.(show(?l6).toNat=i by omega),let u3:TS:=?sF;?oF,Cz ?d6 e,fun z=>?uB,let u8:TS:=Ao t8 u9;?s4,Ez xs ?cO,⟨_,rfl,rfl,_,rfl,?_⟩,["one",?jI],[?b8,"old",?aN],Cz ?bQ ?dO,(?jT).length,"_law_word",let u2:TS:=?tJ;?qR,y9 hs hm,(σ'=?pP),?xJ p3,if ?d0=e then ?R+1-?cD else ?R,?bY ?e8 0,0<=p/\?fS,?c0 b ?a1,?wK p4,if ?aS=k then c else 0,firstMet (fun i=>?t2) ?i9,bootBuiltins,.(by simpa using hq),Ai (fun y=>?f8*?f2) w,?vU p0,⟨rfl,rfl,rfl⟩,let s:=S;?a3,Ni xs ?T ms,Io ?bB v,?vQ p4 Qp,?y H G',"add_at",.(by rw[Ay]),h.side j y hj2 hy y2,⟨_,hen⟩,Nl H vs ls,fun j hj=>O9m,OA ns lo hi,(hi:i<ks 0),(?gC).1.toNat,?xJ p4,Value->?r2,if ?c4 then ?aQ else 0,(Jg xs 1),?w2 p0,(?lI).length,.set (zM ns) (dP ns),Jg xs 1 x j,?x7 (fun i=>?n3),?bV z ?bB ?bH G,(Jg xs k),(?lU h).1,?vQ p8 Qp,["old","new",?q8],(?o ?r3 []).length,if ?bU=q then ?kB else 0,[iS n,iS p,rS L,rS N,o4,o5],?f1=0\/?f1=1,Nat->?eM,Ao t6 u7,this.2.1,Ai (fun i=>turnL z P G i c*turnL z PB L i d) z,?w2 p3,∀p∈ps,oJ ?aB p,Ao t4 u5,"level_of",(?fG).toNat,?wG ?oS,?c (?jA),Nat->Lat.Mat,s3.trans,fun j=>if j=c then 1 else 0,?y0 S x9,?w1 p3,Dy K H1 a xs,"quotient",(hi:i<zs 0),Ty (?o (?wU ?aA j).toNat []) (?wU ?hA i),"pieces",(p4 x0 H),(?lQ).getD,fun j=>?q (?wV j),?q (n=0),∃j,j<i/\φ j=φ i,h.2 i v ps e1 e2,Hl (?b4) k,s _ _ h1,?bG∈?g8,ok _ O9m,i<vs.length,⟨_,?cS⟩,Ai (fun a=>if ?c4 then Jg xs 1 a c else 0) ?aO,.(by rw[Al (Sj b _ z)];exact z),if i=y then f i else 0,Ao t1 u2 D' σ H,(ps++[p]),?w3 p5,HT.sIx ?i9 0 lo,(?h9).map,fun _=>(?dK,Lat.one),T.n_tuple,Ew K n n st f fd,?C Expr,.(by rw[←WK];exact ?fH),?w2 p2,?xI Shared,ms[i].1.toNat,if c=c' then 1 else 0,?U h O9m,fun _=>Lat.one,let s:=?dQ;G s,Reps.x s hb r,?u8 φ i,g.1.toNat,?wT (ks j),?w3 p3,[?hP,?b8,?aN],List.filter_cons_of_neg,H p=none,"_law_words",?vQ p0 Qp,?x6 p3,let s:=(?e3);?a3,∀[?dE],?d1->Bz H' vs ps,Nat->?e,let u2:TS:=?tJ;?sR,if ?c1 then(?lK) else 0,fun j y hj hy y2=>?_,(kD H d),Em xs ?d6,small (by rw[hzs,qc4];omega),(m:Int)-k0,(?aA).zip,if b=a then 1 else 0,zs 0=?J,hf _ (Jt (j:=1) O9m),inn _ ?d3,spN xs k i,Fq O H' vs lf,Ao t5 u6,iX K R vs H1,b.fin.dg,"levels",let u7:TS:=?tU;?uF,Dx ks _ e,fun n=>?q (n≠1/\n≠0),fun m hm=>?_,p.2.natAbs,⟨c,e1,e0,e2⟩,Jn xs a c,p3 x0 x1,?w2 p1,gT m G B j c',?vQ p1 Qp,Ao t3 u4,let u9:TS:=Ao t9 lP;?o7,?bV z ?bB ?bH L,?y8 S x5,?w1 p0,m<sp.length,?x7 (fun x=>?dU*ρ i x),wI x e-wI y e,Lat.numAt,[a,b,c,d],?vU p1,turnL z P G i a,g x σ H fun σ1 H1=>Ao t1 u2 D' σ1 H1,q.2.natAbs,∀i,?aK->0<f i,mulV w B u x,r ?cN=r a,inn a ha,⟨?eF,?eF,?eF,?eF⟩,⟨Eq.symm,Eq.symm⟩,(Io k0 f).filter,fun z=>h ?gT,(?hC).filter,ns.getD i 0,Nat->?g->?gP,let u5:TS:=?s0;let u4:TS:=?pX;?nR,Z2 _ _ z,Ah3 xs n zs ks Ls Gs fs lp rp ls,?qD ?e8 0,?vQ p7 Qp,GP D nm r1 D1 D2 b2,ls.length=4,?vQ p2 Qp,hf it ?a1,i=vs.length,Z2 _ _ hc',?o2 I ds hr rv,I.list hq,let s:=S x0;G s,Im ms k n,Ao t2 u3,Fq O H vs lf,hf _ (Jt (j:=0) O9m),O0 φ v n j h2 e,Bz H us ps,?wH p2,if c=d then 1 else 0,fun i=>r.2 ?jG,h.2 i v e,?vU p2,(?L).natAbs,Ao t7 u8,mainGlobals,as.drop k,?d i s.toks,VI w (f i),?xR ?cX x,?vQ p5 Qp,Ew K n q st f fd,⟨rfl,rfl⟩,"is_whole",fun i hi=>?_,?c0 a ?a1,⟨(Et h).1,(Et h).2.1⟩,?d (n*p.2),PyProof.Rows.firstMet,RW xs k v,⟨_,hL⟩,.(by cases z),S x0 x1 x2 x3 x4 x5 x6 x7 x8,D.nx σ H,Nz xs k ?eH,let u6:TS:=?pS;?uN,H c=?fK->H1 c=?fK,?x7 (fun a=>?d8*mulV w B u a),if ?c4 then B a c else 0,(Jg xs k i j).natAbs,.(by ext bL;rfl),?wK p3,[?cJ,"faces"],let u5:TS:=?s0;?o0,t.lv j O9m,vs.length=ls.length,?C Addr,s1.heap.objs.size+1,?vY EL j,?x7 (fun a=>?sQ*B a c),(Do xs ?aB).getD,Ma φ ?gG m,?x6 p2,"faces_agree",Ai f (a+b),.(by have G:=F.agr ?a1;have e1:=G 0 1 b a _ _ ?aW rfl rfl gb ga;have e2:=G 0 2 c a _ _ ?aW rfl rfl gc ga;have e3:=G 1 2 c b _ _ ?aW rfl rfl gc gb),.(by rintro zs τ G1 ⟨s3,BG,hzs,_⟩;refine⟨D,_,rfl,?j ⟨.of BG,fun T1 hT1=>?_⟩⟩;have s4:?y G1 (upd G1 T1 (?D zs)):=?aJ hT1),.(by obtain⟨A,ha,ga,la,ca⟩:=?u5;obtain⟨B,hb,gb,lb,cb⟩:=?oM;obtain⟨C,hc,gc,lc,cc⟩:=?c0 c ?a1),.(by intro X hP hw hK hc i Ac s σ H E I hf st hg;subst hP hw hK;obtain⟨⟨old,h1⟩,h2⟩:=st),∀(kz:k0<=m)(pos:?sT)(F1:∀i j,i<m->j<m->?x7 (fun a=>?d8*ρ j a)=if i=j then 1 else 0),a,∀(h2:∀a,a<m->∃u:?u,∀x,x<m->?sU=?l0),a,∀{O H:Hp}{vs:?g}{lf:?aP}{c:Addr}{m:Ms}(h:?tK)(e0:?l1)(e:H c=?wD m),a,∀{zs ks:?dY}{Ls Gs:?q2}{fs:?eR}{lp rp:?pR},a,.(by exact ?j (?r ⟨o,?n5⟩)),.(by have hi:=(?a6 hx).1;have eg:?fL=x:=?mF),.(by obtain⟨i,hi,rfl⟩:=?S hn;have:=b.fin.dg.pos i (?e7)),.(by by_cases z2:?mY=?eS),.(by exact ?j (?j (?n5))),.(by have hfresh:H ?cX=none:=I.hok.fresh ?aR),.(by obtain⟨a,vs,rfl,hq,hr⟩:=h;obtain rfl:u=?z:=r),.(by unfold Lj;rw[qe9];intro j hj;rw[qe9];intro i hi),.(by exact ?j (?r ⟨q,?iZ⟩)),∀{i:Nat}{x:?e}(hx:?gY)(h2:?cM),a,.(by have ne:b≠D:=fun z=>by rw[z,hD]at h;cases h),∀{O H H':Hp}{vs:?g}{lf:?aP}(h:?tK),a,.(by rw[?kZ,eg,h2];rfl),∀{n w k:Nat}{f:?u}{l r:?eM},a,∀{ps:?a0}(h:aG xs k ps)(N4:?h8),a,∀{X:Cx}{J:XJ}{j k:Nat}{C:Addr}{ps:?h},a,∀{e o:Expr}{es:?qZ}{ta:TE}{t:TA},a,∀{A:Around}{E:?pA},a,∀{es:?qZ}{x1:Nat}{tpos:Pos},a,@(?a x0 x1 x2 x3 x4 x5 x6 x7 x8 x9 ?b),@(?a x0 x1 x2 x3 x4 x5 x6 x7 H),@(∀σ H,?a->?n),@(Ao t1 (Ao t2 (Ao t3 (Ao t4 ?a))) D σ H),@(?a  x0 x1 x2 x3 x4 x5 x6 x7 H),@(g x σ H fun σ1 H1=>Ao t1 ?a D σ1 H1),@(By P w K mg ?a5 En 1 f fd ?a (?b K)),@(∀σ,?a->?w),@(?a xs ?b z k0 L G f l r),@(sg ?a*Ty (?o ?b []) e),@(?a  x0 x1 x2 x3 x4 x5 x6 x7 x8 x9 H),@(?a x0 x1 x2 x3 x4 x5 x6 x7),@(?a x0 x1 x2 x3 x4 x5 x6),@(?a x0 x1 x2 x3 x4),@(mg ?a=none),@(A0->A1->A2->A3->A4->A5->A6->A7->?a),@(?c (?s ?a)),@((?o (?iG).toNat []).getD i 0=(?o (?fX).toNat []).getD (j-1) ?a),@(show s.heap.IsTuple ?a ?fU from p),@(?a xs ?d2 (zs j) (ks j) (Ls j) (Gs j) (fs j) (lp j) (rp j)),@(?a  x0 x1 x2 x3 x4 x5 x6 x7 x8 H),@(?a  x0 x1 x2 x3 x4 x5 H),@(upd H L0 (?D [?d n,?d 1,?d ?a])),@(?c (.dK (cK ?a))),@(⟨h.1,fun i v ps e1 e2=>let ⟨a,us,e,?a,h1,h2⟩:=?qH;?b⟩),@(fun _ _ _ _=>?a),@(Ai (fun c'=>?cY*?a) w),@(?a  x0 x1 x2 x3 H),@(fun vs H Q _=>Jp fun ?c5 ?A=>Ed ?gH ?V ?eK ?bF ?a),@(?a (l:=C) (by unfold lev at lc;simp at lc;omega)),@(?a  x0 x1 x2 H),@(Av (i:=?a) ?cE ?b),@(fun r hr=>by rw[qq5]at hr;subst hr;exact ?a),@(A0->A1->A2->A3->A4->A5->A6->A7->A8->A9->?a),@((if y=?a then 1 else 0)-(if y=?b then 1 else 0)),@(⟨?a,_,rfl,?fH,rfl,_,_,rfl,_,_,rfl,rfl,?_⟩),@(Bd (Bc (K:=K)) ?K (Bd ?bD ?a4 ?a ?a7) ?a7),@(∀H',?E->Q (.bl ?a) H'),@(Bb (C3 (K:=K)) ?mS B4 (Aa ?K (Aa ?a Ae))),@(Ai (fun i=>(rp j).2 i c*(rp j).1 i d) ?a),@((?a).getD ?b 0),@(Dh (?o ?a []).length=k),@(A0->A1->A2->A3->A4->A5->A6->A7->A8->?a),@(?c (?d ?a)),@(Ql K ?a tp nm r1 D1 D2 b2 n w k f l r),@(Bb (Az (K:=K)) T.n_len qh1 (Aa ?a Ae)),@(show v=?a from h),@(mg ?a=?jE/\∀H,Dy K H a ((?b:?e).map ?G)),@(ls[?a]?=?bW),@(Ai (fun a=>?a) m),@(?fY fun v=>if ?a=?eS then ?jF else v),@(?a+1-2*(((?b:Nat):Int)%2)),@(?a  x0 x1 H),@(Ai ?a m),@(?a fun p=>if ?cQ then(p.1,v) else p),@(φ (?aS)*Cz ?a (?aS)),@(xs.length<=?a),@(wF φ ?a),@(k x0 x1 x2 x3 x4 x5 ?a h0 h1 h2 h3),@(?a  x0 x1 x2 x3 x4 H),@(upd H D (?s ?a)),@(g x σ H fun σ1 H1=>t1 ?a σ1 H1),@(⟨h.1,fun i v e=>let ?s9:=?tR;?a⟩),@(SqL K H ?a ?b),@(?a->Prop),@(?a x0 x1 x2),@(⟨_,rfl,_,_,d,rfl,?a ?b,hx,_,rfl,?_⟩),@(go _ (?r (?r (?a ?b)))),@(fs.length=?a),@(Al (ne ?a ?gV)),@(?fA (i:=?a) ?b O9m O9m),@(?a x0 x1 x2 x3),@(⟨?a,rfl,?bJ,rfl⟩),@(upd H ?a (?D [?Y,?b])),@(s _ _ ?a (?r ?b6)),@(Rep K H ?a ?b),@(Co xs ?a),@(BR ?a ?b id hD TV),@(Ag fun j _=>?a ..),@(?jV n p ?a x y ?b u v),@(Ao t5 (Ao t6 (Ao t7 ?a))),@(?a x0 x1 x2 x3 H),@(?a x0 x1 x2 x3 x4 x5 x6 x7 x8 ?b),@(?a x0 x1 x2 H),@(?aI+?vZ 0 ?e8+?vZ ?a b.toNat),@(?a x0 x1 x2 x3 x4 x5 H),@(?aC->?E->?b0=?w6 ?a->?b2),@(?a x0 x1 H),@(Ea (K:=K) (n:=2) ?H (Bm (At (i:=0) ?a) (Bm ?b D9))),@(Bd ?bD ?a ?b ?a7),@(?a x0 x1 x2 x3 x4 ?b),@(Ed (vs=[v]) (LT K H v xs) ?eK ?bF ?a),@(Ak (Be ?a)),@(Ai (fun j=>?dX*?a) z),@(?a->?xI ?b),@(D5 (Aa ?a (Aa Am (Aa Am Ae)))),@(e9 (l.map ?G) ?a=?wX (?kC ?b 0)),@(Kw xs ?a ls z L G),@(fun vs H Q _=>Jp fun ?gR ?A=>?y9 ?a),@(Ao t2 (Ao t3 ?a)),@(Dr (Kc (K:=K)) ?H ?qX Ku (Aa ?a Ae)),@(Qm fun x0 x1 x2 x3=>Ef ?eC (?a) ?b)])
universe e9
def IteT[?v](a:Addr):It :=
 ⟨fun i H=>∃xs x,?eU/\?gY,fun i H x H'=>∃p v,?rF/\x=?bO/\H'=?xR p v/\∀xs,?eU->?jS=?c v,fun i H=>∃xs,?eU/\?xA i⟩
theorem eT{P:Program}{w:World}[?I][?vP](a e it:Addr)(hne:e≠it):V2 P w K (.Tuple es x1 tpos) (?e6) ?kF e (fun i h=>(∃old,IsEnum h e it ?bG old)/\h.IsTupleIter it a i) where
 mem:=?hK
 obj:=fun i h st b hb=>by
  obtain⟨⟨old,h1⟩,o,h2,c,d⟩:=st;ext iL
  . exact⟨_,h1,fun v z=>by cases (show Data.fields _=Data.cell v from z)⟩
  . ext m6
    subst z;exact⟨o,h2,fun v z=>by rw[d]at z;cases z⟩
 keep:=fun i h h' st k=>by
  obtain⟨⟨old,h1⟩,h2⟩:=st;exact⟨⟨old,k e ?a1 _ h1⟩,h2.at fun o z=>k it ?a1 o z⟩
 item:=by
  ext v2;obtain⟨xs,x,hq,hx⟩:=hg;ext m4;obtain⟨u,hu,ru⟩:=rv.get hx;have fe:=hf e ?a1;have fi:=?tC;have lte:e<s.heap.objs.size:=qb2 h1;ext vC;refine Vt h1 h2 (?w8 a) (x:=u) (by simpa using hu) hne fun h' hout WO htup hsz hk=>?_;refine⟨_,rfl,wpAny_letOwnedTupleGo_enum hout fun h3 hen Nw=>?_⟩
  replace Nw:Heap.SameBut e h' h3:=Nw
  have kk:∀b o,b≠e->b≠it->s.heap.get? b=?cL->h3.get? b=?cL:=fun b o n1 n2 z=>(Nw.2 b n1).trans (hk b o n1 n2 z);have rG:h3.get? ?cX=?c { cls:=.type "tuple",data:=.seq #[?tX,u] }:=(Nw.2 _ (qk1 lte)).trans htup;have wQ:h3.IsTupleIter it a ?bA:=WO.at fun o z=>(Nw.2 it hne.symm).trans z;have aV:∀b,b ∉ ?kF->?nC:=fun b hb=>?kS
  have Z2:∀b v,H b=?c v->?nC:=fun b v z=>⟨Ap z fe.1,Ap z fi.1⟩
  have Sj:∀b v,H b=?c v->b≠s.heap.objs.size:=fun b v z=>Ap z ?kQ;refine⟨?m ?cX,?tZ,?_,rfl,⟨?cX,x,?kQ,rfl,rfl,fun ys hy=>by rw[I.tuple_inj hy hq];exact hx⟩,⟨?p3,wQ⟩,?k1⟩
  . refine Bk.step (s:=s) (h':=h3) (t':=s.toks+1) (H':=?tZ) I (g':=s.gens) (d':=s.drawn) (ch:=?kF) (?k1) (fun b o _ _ hb z _=>?jH) (fun b o _ _ hb z _=>⟨o.slots,?jH⟩) (fun b o hb z n=>?_) (fun b o hb z=>⟨o,?jH⟩)
     (fun b ys z=>?qP) (fun b o v z=>?qP) (fun b ps z=>⟨#[],by rw[Al (Sj b _ z),z];simp⟩) (?s7) (fun b v z=>?_) I.bare
    . ext iL
      . exact⟨fe.2.2.2.1,fe.2.1,fe.2.2.2.2.1,fe.2.2.2.2.2⟩
      . ext m6
        subst z;exact⟨fi.2.2.2.1,fi.2.1,fi.2.2.2.2.1,fi.2.2.2.2.2⟩
    . rw[Al (qc5 (qb2 z))];exact n
    . obtain⟨o,es',ep,ho,r⟩:=hm;exact⟨o,es',ep,kk _ o fe.2.1.symm fi.2.1.symm ho,r⟩
    . by_cases hb:b=s.heap.objs.size
      . subst hb;rw[Ab]at z;cases z;exact⟨(by show(2:Nat)<=sizeLine;decide),[?tX,u],?fD ?b6 (?fD ru .nil),⟨_,rG,rfl,rfl,_,rfl⟩⟩
      . rw[Al hb]at z;refine(I.hok b v z).stay (fun c y hc' q=>?_) (fun c q=>?mK) fun c ys q=>?mK
        rcases hc' with rfl | hc'
        . exact kk _ _ (?t5).1 (?t5).2 q
        . exact kk _ _ (?tE).1 (?tE).2 q
  . have lb:b<s.heap.objs.size:=by
     ext iL
     . exact lte
     . ext m6
       subst z;obtain⟨o,z,_⟩:=h2;exact qb2 z
    rw[Al (qc5 lb)];exact(hf b hb).1
 done:=by
  ext v2;obtain⟨xs,hq,hx⟩:=hg;ext m4;obtain⟨f0,f1,f2,f3,f4,f5⟩:=?tC;have hl:=rv.length;exact Xt (I.ok.hd hc) h1 h2 (?w8 a) (by simp;omega) fun h' eb=>⟨rfl,I.turned (t':=s.toks) (fun b o hb z=>eb b o hb z) f0 f1 f3 f4 f5⟩
 self:=fun _ _ _ _ _ st h=>by
  obtain⟨⟨old,h1⟩,h2⟩:=st;exact qt0 h1 h
inductive iX[?v](R:It->?F)(vs:?g)(H1:Hp):Prop
 | mk:∀a,?gH->((∃xs,?q7))->(R (?e6) H1)->?s1
def wK[?v](ta:TA):TI:=fun σ H R=>ta σ H fun vs H1=>?s1
theorem Up:?oQ ?cU=?c (.type ?cU):=?i
theorem mE{X:Cx}[?I][?vP]{a:Expr}{ta:TA}{p pos:Pos}(hg:Gl X ?cU)(hm:X.mg ?cU=none)(ha:PA X [a] ta)(hK:X.K=K:=by rfl)(hs:starEach [a] X.env=[(false,eval a X.env)]:=by rfl):PI X (.Tuple es x1 tpos) (.Call (.Name ?cU p) [a] [] pos) (wK K ta):=by
 subst hK;intro Ac s σ H R I h;refine Call_ (Iy I hg hm Up (qf1 (Dk (ha pos Ac s σ H _ I h) fun us s1 _z=>?_) hs rfl));obtain⟨vs,H1,I1,r1,q1⟩:=_z;obtain⟨l,e,⟨xs,hq⟩,q⟩:=q1;subst e;cases r1 with
 | cons r rr =>
   cases rr;cases r;obtain⟨its,rv,pl,hz⟩:=I1.tuple hq;refine GI (show s1.heap.IsTuple l ?fU from pl) fun h' hen hit hsz hk=>?_;refine qt0 hen ⟨?uR,[?uR,s1.heap.objs.size],_,_,H1,rfl,I1.kept (t':=s1.toks) hk,eT l _ _ (qs5 _),⟨?p3,hit⟩,?k1,q⟩
   have lb:s1.heap.objs.size<=b:=by
    ext iL
    . exact qn0 _
    . have z:b=s1.heap.objs.size:=?kS
      rw[z];exact ?b3
   exact I1.fpOk lb (I1.hok.fresh lb)
section
variable{g:TG}{tc:TT}{te:TE}{D:Addr}{Q:?F}{τ:St}{H:Hp}
theorem kH[?I][?mD]{g:TG}{tb:TS}{D:Ends}{σ:St}{H:Hp}(Pv:?fN)(h0:Pv 0 σ H)(hl:∀i σ H,?kU->?jM->?eU)
 (hs:∀i x σ H p,?gY->?jM->?rF->g (?bO) σ (?xR p x) fun σ2 H2=>tb { D with nx:=?k2,ct:=?k2,bk:=D.nx } σ2 H2) (hd:∀σ H,Pv ?aB σ H->?uD) :
 ∃W:Nat->?fN,(∃m,W 0 m σ H)/\∀i m σ H,W i m σ H →
   ((?e6).stop i H/\?uD)\/((?e6).go i H/\∃N:?gP,(∀σ' H',N σ' H'->∃m',m'<m/\W ?bA m' σ' H')/\∀x H',(?e6).yld i H x H'->g x σ H' fun σ2 H2=>tb { D with nx:=N,ct:=N,bk:=D.nx } σ2 H2):=by
 refine⟨fun i m σ H=>m=xs.length-i/\?kU/\?jM,⟨?aB,?hK,?g4,h0⟩,?_⟩;rintro i m σ H ⟨rfl,hi,pp⟩;have q:=hl i σ H hi pp;by_cases hlt:i<xs.length
 . refine ?r ⟨⟨xs,xs[i],q,by simp[hlt]⟩,?k2,fun σ' H' p'=>⟨xs.length-?bA,O9m,rfl,hlt,p'⟩,fun x H' y=>?_⟩;obtain⟨p,v,hp,rfl,rfl,y⟩:=y;exact hs i v σ _ p (y xs q) pp hp
 . have e:i=xs.length:=O9m
   subst e;exact ?j ⟨⟨xs,q,?b3⟩,hd σ H pp⟩
universe e9
universe L2
namespace Hb
def Iw[?iT](f:Int):?u
 | 0=>0
 | i+1=>if ?d0=f then ?nA+1-?cD else ?nA
def Ty[?iT](f:Int):Int:=Iw fs f ?h5
def wI(x e:Int):Int:=if x=e then 1 else 0
theorem QM(e:Int):Ty [] e=0:=rfl
theorem HS(x y e:Int):?kO=?sM:=by
 show(if y=e then ?x5 (if x=e then ?kB else 0) 1 else(if x=e then ?kB else 0))=_;unfold wI;split<;>split<;>simp_all
theorem HR(x y z e:Int):Ty [x,y,z] e=?sM+wI z e:=by
 show(if z=e then ?x5 ?kO 2 else ?kO)=_;rw[HS];unfold wI;split<;>simp_all<;>omega
theorem QY[?cB](h:l.length=2):∃a b,l=[a,b]:=by
 match l,h with
 | [a,b],_=>exact⟨a,b,rfl⟩
theorem MZ[?cB](h:l.length=3):∃a b c,l=[a,b,c]:=by
 match l,h with
 | [a,b,c],_=>exact⟨a,b,c,rfl⟩
theorem At9[?cB](h:l.length=4):∃a b c d,l=?sO:=by
 match l,h with
 | ?sO,_=>exact⟨a,b,c,d,rfl⟩
def sg(i:Nat):Int:=1-?cD
theorem ZC[?aY]{k:Nat}{q:?e}(hq:xs[k]?=?fK)(e:Int):Ai (fun i=>sg i*Ty (?o (q.getD i 0).toNat []) e) q.length=0:=by
 have F:=hs k q hq
 have face:∀f∈q,∃p,?jT=p/\(xs.take k)[f.toNat]?=?gZ/\lev p+1=lev q/\(p.length=0\/p.length=2\/p.length=3\/p.length=4):=by
  intro f hf;obtain⟨p,hp,hl⟩:=F.bel f hf
  have hp2:?iV=?gZ:=by
   rw[ql9]at hp;split at hp
   . exact hp
   . cases hp
  exact⟨p,by rw[qa4,hp2];rfl,hp,hl,(hs _ _ hp2).cnt⟩
 rcases F.cnt with h | h | h | h
 . rw[h];rfl
 . obtain⟨a,b,rfl⟩:=QY h;obtain⟨A,ha,_,la,ca⟩:=?u5;obtain⟨B,hb,_,lb,cb⟩:=?oM;have za:A=[]:=by ext m8;apply List.eq_nil_of_length_eq_zero;omega
   have zb:B=[]:=by ext m9;apply List.eq_nil_of_length_eq_zero;omega
   subst za zb;show ?y2 1=0;rw[ha,hb,QM];simp
 . obtain⟨a,b,c,rfl⟩:=MZ h;ext v1;obtain⟨a0,a1,rfl⟩:=QY (l:=A) (by ext m8;omega);obtain⟨b0,b1,rfl⟩:=QY (l:=B) (by ext m9;omega);obtain⟨c0,c1,rfl⟩:=?wJ QY;ext uZ;simp at e1 e2 e3;subst e1 e2 e3;show ?y2 1+?vZ 2 ?fP=0;rw[ha,hb,hc,HS,HS,HS];simp[sg];omega
 . obtain⟨a,b,c,d,rfl⟩:=At9 h;ext v1;obtain⟨D,hd,gd,ld,cd⟩:=?c0 d ?a1;obtain⟨a0,a1,a2,rfl⟩:=MZ (l:=A) (by ext m8;omega);obtain⟨b0,b1,b2,rfl⟩:=MZ (l:=B) (by ext m9;omega);obtain⟨c0,c1,c2,rfl⟩:=?wJ MZ;obtain⟨d0,d1,d2,rfl⟩:=MZ (l:=D) (by unfold lev at ld;simp at ld;omega);ext uZ;have e4:=G 0 3 d a _ _ ?aW rfl rfl gd ga;have e5:=G 1 3 d b _ _ ?aW rfl rfl gd gb;have e6:=G 2 3 d c _ _ ?aW rfl rfl gd gc;simp at e1 e2 e3 e4 e5 e6;subst e1 e2 e3 e4 e5 e6;show ?y2 1+?vZ 2 ?fP+?vZ 3 d.toNat=0;rw[ha,hb,hc,hd,HR,HR,HR,HR];simp[sg];omega
universe Hb
namespace Hb
open PySem L2
def HF(n:Int)(i:Nat):Int:=if ?f1=0 then n else -n
def Hh(ms:Ms)[?dG]:Nat->Ms
 | 0=>ms
 | i+1=>?kN
def GN(ms:Ms)[?dG]:Ms:=Hh ms fs n ?h5
theorem kG(ms:Ms)[?iT](n k:Int):∀i,Cz ?bQ k=?a2+?iC*n
 | 0=>by simp[Hh,Iw]
 | i+1=>by
   show Cz (?kN) k=_;rw[iF,kG ms fs n k i];show _=?a2+(if ?d0=k then ?nH else ?iC)*n;by_cases h:k=?d0
   . rw[?a9,?l h.symm]
     have e:?cH=(1-?cD)*n:=by
      unfold HF;have:?pQ:=O9m
      rcases this with z | z
      . rw[?cT,z];simp
      . rw[?bP,z];omega
     rw[e,show ?nH=?iC+(1-?cD) by omega,Int.add_mul];omega
   . rw[?X,?f (?t0)]
theorem Xu[?iS][?dG]:∀i,nd ?bQ
 | 0=>h
 | i+1=>MS (Xu h fs n i) _ _
theorem DG{ms:Ms}(h:nz ms)[?dG]:∀i,nz ?bQ
 | 0=>h
 | i+1=>MM (DG h fs n i) _ _
theorem T7(ms:Ms)[?dG]:∀i,(?f6).length<=ms.length+i
 | 0=>?b3
 | i+1=>by
   have h1:=T7 ms fs n i;have h2:=aY ?bQ ?dO (?cH);show(Im _ _ _).length<=_;omega
def Nt(xs:Ar)(k p n:Int):Bool:=De xs (?gO) k&&?q (¬n=0)
def Ni[?Z](ms:Ms):Bool:=ms.all fun p=>Nt xs k p.1 p.2
def Mc[?dH]:Nat->Ms
 | 0=>[]
 | i+1=>GN ?d9 (?lI) (?gC).2
def Em[?dH]:Ms:=Mc xs ms ?nL
theorem q9[?eX](ms:Ms):∀i,(?hI).length<=4*i
 | 0=>?b3
 | i+1=>by
   have h1:=q9 h4 ms i;show(GN _ _ _).length<=_;unfold GN;have h2:=T7 ?d9 (?lI) (?gC).2 ?pE
   have h3:?pE<=4:=by
    rcases Kq (l:=xs) (i:=?p8) (d:=[]) with z | z
    . exact h4 _ z
    . rw[z];exact ?g4
   omega
theorem CU{xs:Ar}{p l:Int}(h:De xs (?gO) l=true):?oL:=by
 have h':(?q (0<=p)&&?q (?fS)&&?q (Dh ?i5=l))=true:=h;rw[qc3,qc3]at h';exact⟨qd2 h'.1.1,qd2 h'.1.2⟩
def Qj(b:Addr)(H H1:Hp):Prop:=∀c q,c≠b->?uG
section
variable[?I]{H H1:Hp}{b:Addr}{m:?C (Key × V)}
theorem SqL.x[?iK][?mD](h:?xH a xs):SqL K H1 a xs:=by
 rcases h with(h|⟨o,h⟩) | h
 . ext vB
 . ext v7
 . exact ?fF
theorem Dy.x[?iK][?mD](h:?eU):?q7:=by
 rcases h with(h|⟨o,h⟩) | h
 . ext vB
 . ext v7
 . exact ?fF
mutual
theorem Rep.x[?iK]{v:V}{d:L2.D}(h:?xT v d):Rep K H1 v d:=by
 cases d with
 | non=>exact h
 | bl b=>exact h
 | int i=>exact h
 | str x=>exact h
 | tup ds =>
   obtain⟨a,vs,e,q,r⟩:=h;exact⟨a,vs,e,Dy.x s hb q,?r8⟩
 | lst ds =>
   obtain⟨a,vs,e,q,r⟩:=h;exact⟨a,vs,e,SqL.x s hb q,?r8⟩
theorem Reps.x[?iK][?dI]{ds:?C L2.D}(h:Reps K H vs ds):Reps K H1 vs ds:=by
 cases ds with
 | nil=>exact h
 | cons d r =>
   obtain⟨v,q,e,h1,h2⟩:=h;exact⟨v,q,e,Rep.x s hb h1,Reps.x s hb h2⟩
end
universe e9
section
variable[?v]
def Wr:Sp:=fun vs H Q _=>bZ fun ?c5 ?A (k p n:Int)=>Ef (vs=[?z,?bS,?gO,?d n]) ?V (Q (.bl (Nt xs k p n)) H)
def U0:Sp:=fun vs H Q _=>bZ fun ?cI ?A ?T ?eJ=>Ed (vs=[?z,?bS,?b5]) ?V (H b=?c ?bX) (ms.length<=1000) (?wR (Ni xs k ms))
def Fo:Sp:=fun vs H Q _=>bZ fun ?cI ?A (n:Nat) ?eJ=>Kh (vs=[?z,?b5,?d ?aH]) ?V (H b=?c ?bX) (ms.length<=1000) (n<=100) (?wR ((?gJ n).any fun(k:Nat)=>?oW))
def Rw:Sp:=fun vs H Q _=>bZ fun ?c5 ?gR ?eJ (fs:?e) ?aH=>Ed (vs=[?z,v,?d n]) (H a=?c ?bX) (TI K H v fs) (ms.length+fs.length<=100000) (∀H',Qj a H H'->H' a=?wD (GN ms fs n)->?j0)
def i9:Sp:=fun vs H Q _=>Qm fun ?cI ?A ?eJ=>Nm (vs=[?z,?b5]) ?V (H b=?c ?bX) (ms.length<=1000) ((?lB)) ((∃k:Nat,k<4/\?oW=true)) (VO H ?d6 Q)
universe e9
universe Hb
namespace Hb
open PySem L2
def wF[?N](ms:Ms):Int:=(?O fun p=>p.2*?eD).sum
theorem EO[?N]:?xB []=0:=rfl
theorem Jf[?N](p:?aU)(ms:Ms):?xB (?b4)=p.2*?eD+?P:=by
 unfold wF;rw[qd5,List.sum_cons]
theorem Yf(k:Int):Cz [] k=0:=rfl
theorem GV[?N](k:Int):∀{ms:Ms},?bZ->?xB (?fM)=?P-?a2*φ k
 | [],_=>by show ?aI=0-Cz [] k*φ k;rw[Yf];simp
 | ?b4,h=>by
   ext iM;have ih:=GV φ k (ms:=ms) h.2;rw[L8,Jf];by_cases e:?cQ
   . rw[?c7];have hd:?qI=?fM:=by unfold Hl;rw[?rE (?hH)]
     have hg:?a2=0:=L7 (by rw[←e];exact h.1);rw[hd,ih,hg,←e,qh6];omega
   . rw[?dS];have hd:?qI=p::?fM:=by unfold Hl;rw[?mJ (?hH)]
     rw[hd,Jf,ih];omega
theorem g7[?N](as bs:Ms):?xB (as++bs)=?xB as+?xB bs:=by
 unfold wF;rw[qb1,List.sum_append]
theorem LO[?N](k v:Int):∀{ms:Ms},?bZ->k∈?O (·.1)->wF φ (?x8 ?O)=?P+(v-?a2)*φ k
 | [],_,h=>by simp at h
 | ?b4,h,hk=>by
   ext iM;rw[qd5,Jf,Jf,L8];by_cases e:?cQ
   . rw[?c7,?c7]
     have same:(?x8 ?O)=ms:=by
      conv=>rhs;rw[←?n7 ms]
      apply qu6;intro q hq;have:¬q.1=k:=fun z=>h.1 (by rw[e,←z];exact qn1 (f:=(·.1)) hq);rw[?f ?dB];rfl
     rw[same,e,Int.sub_mul];show v*φ k+?P=_;omega
   . rw[?dS,?dS]
     have hk2:k∈?O (·.1):=by
      rw[qd5,qb6]at hk;rcases hk with z | z
      . exact ?U ?gT e
      . exact z
     rw[LO φ k v h.2 hk2];omega
theorem UQ[?N][?iS](k v:Int):?xB (putI ms k v)=?P+(v-?a2)*φ k:=by
 by_cases hk:k∈?O (·.1)
 . unfold putI;rw[?l (Wg.mpr hk),LO φ k v h hk]
 . rw[put_new hk,g7,L7 hk,Jf,EO];simp
theorem uR[?N][?iS](k n:Int):?xB (?tI)=?P+n*φ k:=by
 unfold Im;split
 . rename_i e
   rw[GV φ k h];have:?a2=-n:=O9m
   rw[this,qn3];omega
 . rw[UQ φ h,show ?gS-?a2=n by omega]
theorem cD[?N][?iS][?dG]:∀i,?xB ?bQ=?P+n*Ai (fun j=>sg j*φ (fs.getD j 0)) i
 | 0=>by show ?P=?P+n*0;simp
 | i+1=>by
   show ?xB (?kN)=?P+n*(?l4+sg i*φ ?dO);rw[uR φ (Xu h fs n i),cD φ h fs n i,Int.mul_add]
   have e:?cH=n*sg i:=by
    unfold HF sg;have:?pQ:=O9m
    rcases this with z | z
    . rw[?cT,z];simp
    . rw[?bP,z];omega
   rw[e,qe1];omega
theorem Ou[?dH]:∀i,nd ?d9
 | 0=>List.nodup_nil
 | i+1=>Xu (Ou xs ms i) _ _ _
theorem Xq[?dH]:∀i,nz ?d9
 | 0=>fun p hp=>by cases hp
 | i+1=>DG (Xq xs ms i) _ _ _
def face(xs:Ar)[?N](p:Int):Int:=Ai (fun j=>sg j*φ (?wU ?e2 j)) ?i5
theorem CC[?N][?dH]:∀i,?l7->?xB ?d9=wF (?c0 xs φ) (ms.take i)
 | 0,_=>rfl
 | i+1,h=>by
   show ?xB (GN ?d9 _ _)=_;unfold GN;rw[cD φ (Ou xs ms i),CC φ xs ms i ?t,qr3,?hM,g7];ext lX
   rw[e];show _+_=_+wF _ [?gB];rw[Jf,EO];unfold face;omega
theorem gW[?N][?dH]:?xB ?d6=wF (?c0 xs φ) ms:=by
 unfold Em;rw[CC φ xs ms _ ?aR,qd9]
def xF(e k:Int):Int:=if k=e then 1 else 0
theorem sP(e:Int):∀{ms:Ms},?bZ->wF ?kH ms=Cz ms e
 | [],_=>rfl
 | ?b4,h=>by
   ext iM;rw[Jf,L8,sP e h.2];unfold xF;by_cases z:p.1=e
   . rw[?cT,?cT,L7 (by rw[←z];exact h.1)];omega
   . rw[?gL,?gL];omega
theorem rN(xs:Ar)(e p:Int):?c0 xs ?kH p=?dV:=by
 have:∀[?iT] (i:Nat),Ai (fun j=>sg j*xF e (fs.getD j 0)) i=?R:=by
  intro fs i
  induction i with
  | zero=>rfl
  | succ i ih =>
    show ?l4+sg i*xF e ?dO=?oJ
    rw[ih];unfold xF sg;ext bN
 exact ?dB _ _
theorem Ye{xs:Ar}{ms:Ms}(e:Int):?o5=wF (fun p=>?dV) ms:=by
 have h:=sP e (Ou xs ms ?nL);change wF ?kH ?d6=?o5 at h;rw[←h];rw[gW];unfold wF
 congr 1
 apply qu6;intro p _;rw[rN]
theorem gU{φ:?h6}:∀{ms:Ms},(∀p∈ms,?eD=0)->?P=0
 | [],_=>rfl
 | ?b4,h=>by
   rw[Jf,h p (qe4 ..),gU fun q hq=>h q (qc7 _ hq)];simp
theorem kZ[?aY]{ms:Ms}(hin:∀p∈ms,0<=p.1/\p.1<?M):?rQ=[]:=by
 have z:∀e,Cz (?rQ) e=0:=by
  intro e;rw[Ye,gW];refine gU ?i7;obtain⟨h0,h1⟩:=hin p hp
  have hq:xs[?fV]?=?c (?g1):=by
   ext bL;rfl
  unfold face;exact ZC hs hq e
 have hn:=Ou xs (Em xs ms) (Em xs ms).length;have hz:=Xq xs (Em xs ms) (Em xs ms).length;change nd (Em xs (Em xs ms)) at hn;change nz (Em xs (Em xs ms)) at hz;cases e:Em xs (Em xs ms) with
 | nil=>rfl
 | cons p r =>
   rw[e]at hn hz;have h1:=DN hn (qe4 (a:=p) (l:=r));have h2:=z p.1;rw[e]at h2;unfold Cz at h2;rw[h1]at h2;exact ?U h2 (hz p (qe4 ..))
def Ab4(n:Nat)(k:Int):Bool:=?q (?aH=k+1) || (?q (k=0)&&?qF)
def spN[?Z]:?rL
 | 0=>[]
 | i+1=>if Ab4 (?fL).length k=true then ?rY++[?bG] else ?rY
def spots[?Z]:?e:=spN xs k ?aB
structure Part(xs:Ar)(need:Nat)(p:?e):Prop where
 ok:∀f∈p,0<=f/\f<?M/\?oD=need
 agr:0<need->∀i j:Nat,i<j->?nX->?w7 0
section
variable[?v]
universe e9
theorem DL{ms:Ms}{k n:Int}{q:?aU}(h:q∈?tI):q∈ms\/q=(k,?gS):=by
 unfold Im at h;split at h
 . exact ?j ?pK
 . exact HX h
theorem X0{ms:Ms}{fs:?e}{n:Int}:∀{i:Nat},i<=fs.length->∀q∈?f6,q.1∈?O (·.1)\/q.1∈fs
 | 0,_,q,h=>?j (qn1 (f:=(·.1)) h)
 | i+1,hi,q,h=>by
   rcases DL h with z | z
   . exact X0 O9m q z
   . subst z;refine ?r ?_;show ?d0∈fs;ext bL;exact ?cC
theorem v4{xs:Ar}{ms:Ms}:∀{i:Nat},?l7->∀q∈?hI,∃p∈ms,q.1∈?g1
 | 0,_,q,h=>?iE
 | i+1,hi,q,h=>by
   ext lX
   rcases X0 ?aR q h with z | z
   . obtain⟨r,hr,er⟩:=?S z;obtain⟨p,hp,hq⟩:=v4 O9m r hr;exact⟨p,hp,by rw[←er];exact hq⟩
   . exact⟨?gB,?cC,by rw[←e];exact z⟩
theorem eF{ms:Ms}{fs:?e}{n:Int}{M:Nat}(hm:∀p∈ms,?s8<=M):∀(i:Nat),∀q∈?f6,?sS<=M+?lL
 | 0,q,h=>by have:=hm q h;simp;exact this
 | i+1,q,h=>by
   have ih:=eF hm i (fs:=fs) (n:=n);have e:?bA*n.natAbs=?lL+n.natAbs:=Nat.succ_mul ..;rcases DL h with z | z
   . have:=ih q z;omega
   . subst z;have hs:(?cH).natAbs=n.natAbs:=by unfold HF;ext bN
     have hg:(?oC).natAbs<=M+?lL:=by
      unfold Cz;cases e2:Dg (Hh ms fs n i) (fs.getD i 0) with
      | none=>simp
      | some v=>exact ih _ (T5 e2)
     show(?oC+?cH).natAbs<=_;omega
theorem EE[?eX]{ms:Ms}{B:Nat}(hb:∀p∈ms,?s8<=B):∀{i:Nat},?l7->∀q∈?hI,?sS<=i*(4*B)
 | 0,_,q,h=>?iE
 | i+1,hi,q,h=>by
   have ih:=EE h4 hb (i:=i) O9m;ext lX
   have:=eF ih _ q h;rw[e]at this;have hB:=hb ?gB (?cC)
   have hl:?pN<=4:=by
    rcases Kq (l:=xs) (i:=?r3) (d:=[]) with z | z
    . exact h4 _ z
    . rw[z];exact ?g4
   have h2:?pN*ms[i].2.natAbs<=4*B:=qf0 hl hB;have e3:?bA*(4*B)=i*(4*B)+4*B:=Nat.succ_mul ..;omega
theorem GH[?aY]{k:Int}{ms:Ms}(hm:∀p∈ms,0<=p.1/\p.1<?M/\Dh (?g1).length=k):Ni xs (k-1) ?d6=true:=by
 refine qe9.mpr ?kR;have hz:q.2≠0:=Xq xs ms _ q hq;obtain⟨p,hp,hf⟩:=v4 ?aR q hq;obtain⟨a,b,c⟩:=hm p hp
 have hx:xs[?fV]?=?c (?g1):=by
  ext bL;rfl
 have F:=hs _ _ hx;obtain⟨r,hr,hl⟩:=F.bel q.1 hf;have q0:=F.low q.1 hf
 have hr2:xs[?kX]?=?c r:=by
  rw[ql9]at hr;split at hr
  . exact hr
  . cases hr
 have Bt7:?kX<xs.length:=(?a6 hr2).1;have er:?nW=r:=by rw[qa4,hr2];rfl
 have hlr:Dh ?kD=k-1:=by
  unfold lev at hl;unfold Dh at c ⊢;have cr:=(hs _ _ hr2).cnt;have cp:=F.cnt;split at c<;>split<;>omega
 unfold Nt;rw[qc3];refine⟨?_,by simpa using hz⟩;show(?q (0<=q.1)&&?q (?kK)&&?q (Dh (?nW).length=k-1))=true;rw[er,qg3 q0,qg3 (show ?kK by omega),qg3 hlr];rfl
universe Hb
namespace L2
open PySem PySem.Spec PyProof.Rows
universe L2
namespace Hb
open PySem L2
def Nz[?Z](n:Nat):?e:=((?gJ n).filter ?qE).map fun(j:Nat)=>?d2
def Ez[?Z]:?e:=Nz xs k ?aB
theorem cU[?cA]{n:Nat}(h:?wV n):?uE=?kV++[?aH]:=by
 unfold Nz;rw[qk6,qh4,qb1,?mJ (by simpa using h)];rfl
theorem HN[?cA]{n:Nat}(h:¬?wV n):?uE=?kV:=by
 unfold Nz;rw[qk6,qh4,qb1,?rE (by simpa using h)];simp
theorem Ff[?Z](n:Nat):(?kV).length<=n:=by
 unfold Nz;rw[qa2];have:=qg6 (?qE) (?gJ n);simpa using this
section
variable[?v]
def Dt:Sp:=fun vs H Q _=>Rs fun ?c5 ?bG ?A=>B6 (vs=[?z,?Y]) ?V (?xA 1000) (∀[?iQ],?y4 ((Ez xs i).map ?G))
universe e9
theorem belowD_of{i b:Int}(h0:0<=i)(h1:i<b):belowD (?Y) b=true:=by
 show(?q (0<=i)&&?q (i<b))=true;rw[qg3 h0,qg3 h1];rfl
theorem qV(g:?h6)(sp:?e):?j3 g=Io ?iY (fun i=>g (sp.getD i 0)):=by
 unfold Io;apply List.ext_getElem
 . simp
 . intro i h1 h2;simp at h1;simp[h1]
theorem Yy(xs:Ar)(p e:Int):Cz (?i6) e=?dV:=by
 rw[Ye];show 1*?dV+0=_;omega
theorem Et{xs:Ar}{k p:Int}(h:?jC):0<=p/\?fS/\Dh ?i5=k:=by
 unfold Ez Nz at h;obtain⟨j,hj,rfl⟩:=?S h;have h1:=?lU hj;have h2:=?iB h1.1;refine⟨O9m,O9m,?_⟩;rw[qf5];simpa using h1.2
theorem jQ[?eX](p e:Int):(?dV).natAbs<?j2:=by
 rw[←Yy xs p e];unfold Cz;cases h:Dg (Em xs [(p,1)]) e with
 | none=>decide
 | some v =>
   have hm:=T5 h;have:=EE (B:=1) h4 (ms:=?g3) (fun q hq=>by rw[qq5]at hq;subst hq;exact qa1 1) ?aR _ hm;show v.natAbs<?j2;have h2:v.natAbs<=1*(4*1):=this;omega
theorem Jr[?Z]:(?aA).Nodup:=by
 unfold Ez Nz;exact List.Pairwise.map _ (fun a b h=>O9m) (List.Pairwise.filter _ List.nodup_range)
theorem lM[?m3]:(sp.zip ns).map (·.1)=sp:=by
 rw[show(fun x:?aU=>x.1)=Prod.fst from rfl,List.map_fst_zip ?t]
theorem LL[?m3](h:sp.Nodup):nd (sp.zip ns):=by
 unfold nd;rw[lM hl];exact h
theorem UN[?m3]{i:Nat}(hi:i<sp.length):(sp.zip ns)[i]?=?c (sp.getD i 0,?t2):=by
 rw[qa0 (by simp;omega),List.getElem_zip,qa4,qa4,qa0 hi,?hM];rfl
theorem RU{sp ns:?e}{q:?aU}(h:q∈Rj (sp.zip ns)):q.1∈sp/\q.2∈ns:=by
 have h1:=?pK;exact⟨(qp8 h1).1,(qp8 h1).2⟩
section
variable[?v]
def F8(_K:W.Frag):Sp:=fun vs H Q _=>Jp fun(i b:Int)=>B6 (vs=[?Y,?d b]) (0<=i) (i<b) (Q ?bT H)
def P8:Sp:=fun vs H Q _=>Qm fun ?cI (sp:?e) ?eJ=>Ed (vs=[?z,?b5]) (?xH a (?j3 ?G)) (Rd H b ?bX) (sp.length<=1000) (∀[?iQ],?y4 ((?j3 (Cz ms)).map ?G))
def No:Sp:=fun vs H Q _=>Rs fun ?c5 ?A ?T=>Nm (vs=[?z,?bS]) ?V (?xA 1000) ((?lB)) ?iX (k<5) (qP H (?hA).length ?e5 (fun i j=>?qA) Q)
universe e9
theorem sumN_one{sp:?e}(h:sp.Nodup){k:Int}(hk:k∈sp)(c:Int):Ai (fun m=>?oO) ?iY=c:=by
 obtain⟨i,hi,e⟩:=qh5 hk
 have key:∀m,?sK->(?oO)=(if m=i then 1 else 0)*(fun _:Nat=>c) m:=by
  intro m hm;rw[qa4,qa0 hm,Option.getD_some];by_cases q:m=i
  . subst q;rw[?c7,?B,qd0]
  . rw[?f q,if_neg,qh6];intro z;exact q ((List.getElem_inj h).mp (z.trans ?jJ))
 rw[Ag key,Da,?h1]
theorem GU{sp:?e}(hs:sp.Nodup)[?N]:∀{ms:Ms},?bZ->(∀p∈ms,p.1∈sp)->?P=Ai (fun m=>?x9 ms) ?iY
 | [],_,_=>by
   rw[EO,Ag (g:=?gD) (fun m _=>by rw[Yf,qe2]),Pd]
 | ?b4,h,hk=>by
   ext iM;have ih:=GU hs φ (ms:=ms) h.2 fun q hq=>hk q (qc7 _ hq);have h1:=?aM hs (hk p (qe4 ..)) (?eD*p.2)
   have e:∀m,?sK->?x9 (?b4)=(if ?aS=p.1 then ?eD*p.2 else 0)+?x9 ms:=by
    intro m _;rw[L8];by_cases q:?aS=p.1
    . rw[?l q.symm,?l q,q,L7 h.1,qe2,qn4]
    . rw[?f (fun z=>q ?gT),?f q,qo9]
   rw[Jf,ih,Ag e,Cd,h1,qf9 p.2]
def Jg[?Z](i j:Nat):Int:=?qA
theorem Wa{xs:Ar}{k p:Int}(h0:0<=p)(h1:?fS)(h:Dh ?i5=k):?jC:=by
 unfold Ez Nz;refine qf8.mpr ⟨?c2,qk7.mpr ⟨?lC,qg3 h⟩,O9m⟩
theorem VG[?cA]{j:Nat}(hj:j<?e5):?wU ?aA j∈?aA:=by
 rw[qa4,?lD];exact ?l2
theorem FJ[?aY]{k:Int}{i j:Nat}(hj:j<(?o8).length):Ai (fun m=>Jg xs k i m*Jg xs ?cO m j) ?e5=0:=by
 obtain⟨q0,q1,q2⟩:=Et (VG hj);unfold Jg;rw[?mH];generalize ?wU ?o8 j=p at q0 q1 q2;generalize ?wU ?hA i=e;have hcb:=GH hs (k:=k+1) (ms:=?g3) (?wM ⟨q0,q1,q2⟩);rw[?mH]at hcb
 have hkey:∀r∈?i6,r.1∈?aA:=fun r hr=>by
  have h1:=qe9.mp hcb r hr;unfold Nt at h1;rw[qc3]at h1;have h2:(?q (0<=r.1)&&?q (r.1<?M)&&?q (Dh (?o r.1.toNat []).length=k))=true:=h1.1;rw[qc3,qc3]at h2;exact Wa (qd2 h2.1.1) (qd2 h2.1.2) (qd2 h2.2)
 have hbb:=kZ hs (ms:=?g3) (?wM ⟨q0,q1⟩);have hg:=Ye (xs:=xs) (ms:=?i6) e;rw[hbb,Yf,GU (Jr xs k) _ (show nd (?i6) from Ou ..) hkey]at hg;refine Eq.trans (Ag fun m _=>?_) hg.symm;rw[Yy]
theorem QC(xs:Ar):Ez xs (0-1)=[]:=by
 cases h:Ez xs (0-1) with
 | nil=>rfl
 | cons p l =>
   exfalso
   have h1:=(Et (xs:=xs) (k:=0-1) (p:=p) (by rw[h];exact qe4 ..)).2.2;unfold Dh at h1;split at h1<;>omega
theorem ET[?eX](k:Int)(i j:Nat):?uJ<?j2:=jQ h4 _ _
section
variable[?v]
universe e9
noncomputable abbrev Co[?Z]:Nat:=?e5
theorem qM{fs:?e}(h:fs.length<=4)(e:Int):(Ty fs e).natAbs<=2:=by
 have key:∀i,i<=4->(i=0->?R=0)/\(i=1->0<=?R/\?R<=1)/\(i=2->-1<=?R/\?R<=1)/\(i=3->-1<=?R/\?R<=2)/\(i=4->-2<=?R/\?R<=2):=by
  intro i
  induction i with
  | zero=>intro _;exact⟨fun _=>rfl,?dP,?dP,?dP,?dP⟩
  | succ i ih =>
    intro hi;obtain⟨h0,h1,h2,h3,h4⟩:=ih O9m;have e1:Iw fs e ?bA=?oJ:=rfl
    rw[e1];refine⟨?dP,?dA,?dA,?dA,?dA⟩
    . have:=h0 O9m;ext bN
    . have:=h1 O9m;ext bN
    . have:=h2 O9m;ext bN
    . have:=h3 O9m;ext bN
 have:=key ?h5 h;show(Iw fs e ?h5).natAbs<=2;rcases (show ?xM 0\/?xM 1\/?xM 2\/?xM 3\/?xM 4 by omega) with z | z | z | z | z
 . have:=this.1 z;omega
 . have:=?pT z;omega
 . have:=this.2.2.1 z;omega
 . have:=this.2.2.2.1 z;omega
 . have:=this.2.2.2.2 z;omega
theorem PJ[?eX](k:Int)(i j:Nat):?uJ<=2:=by
 refine qM ?_ _;rw[qa4];cases e:xs[((Ez xs k).getD j 0).toNat]? with
 | none=>exact ?g4
 | some x=>exact h4 x (qc6 e)
theorem MC{xs:Ar}{k l:Int}(h:k≠l):?gW+?xU l<=xs.length:=by
 have nd:(?nJ).Nodup:=by
  rw[qv8];refine⟨?lO,?lO,fun a ha b hb e=>h ?_⟩;have h1:=(Et ha).2.2;have h2:=(Et hb).2.2;rw[←h1,←h2,e]
 have sb:(?nJ) ⊆ ?lQ:=fun p hp=>by
  have:?oL:=by
   rcases qn9.mp hp with h | h
   . exact ?u6
   . exact ?u6
  unfold EM;rw[qf8];exact⟨?c2,?lC,O9m⟩
 have:=nd.length_le_of_subset sb;rw[qc0,Mj]at this;exact this
noncomputable abbrev Bv:=Int × Ms × Ms × Ms
def RW[?Z](v:?u):Ms:=Rj (?rT (?oX))
structure EL[?lV]:Prop where
 lev:Lat.Lev (?nM) ?bB z ?pJ L G
 fin:xU z (?dJ) (2 ^ kB z) ?bH (kS z (?dJ)) (Lat.gT ?bB G (Jg xs ?cO)) k0 f l r
 ch:Lat.ChainTo k0 k0 f
 kz:k0<=z
 kw:k0<=?dJ
 bL:?sH
 bG:?pI
 zm:z<=?gW
def GJ[?lV](i:Nat):Bv :=
 (?jA,RW xs k (?dM z l.2 L i),RW xs k (?dM z l.1 G i),?kG)
def Gb[?lV]:?a0:=(?gJ z).map (?vY GJ k)
def aG[?Z][?aF]:Prop:=∃z k0 L G f l r,?vY EL k/\ps=?jR
theorem mY[?aY](k:Int):∀c,c<?dJ->∀x,x<?nM->?lG ?bB ?pJ (fun a=>Jg xs ?cO a c) x=0:=fun c hc x _=>FJ hs hc
structure Ah3(xs:Ar)(n:Nat)(zs ks:?dY)(Ls Gs:?q2)(fs:?eR)(lp rp:?pR)[?bM]:Prop where
 len:ls.length=n
 z0:?rV/\Ls 0=Lat.one/\Gs 0=Lat.one
 nx:∀j,j<n->zs (j+1)=?hD-ks j/\Ls (j+1)=(fun i=>(rp j).1 (ks j+i))/\Gs (j+1)=fun i=>(rp j).2 (ks j+i)
 lv:∀j,j<n->?w9 EL/\ls[j]?=?c (?w9 Gb)
def Kw(xs:Ar)(n:Nat)[?bM](z:Nat)(L G:Lat.Mat):Prop:=∃zs ks Ls Gs fs lp rp,?t6/\zs n=z/\Ls n=L/\Gs n=G
theorem Kw.first(xs:Ar):Kw xs 0 [] ?aO ?dK ?dK :=
 ⟨fun _=>?J,?gD,?r6,?r6,fun _ _=>0,?qW,?qW,⟨rfl,?oU,?p5,?p5⟩,rfl,rfl,rfl⟩
def AI[?mC](n:Nat)(a:α):Nat->α:=fun j=>if j=n then a else g j
theorem F7[?mC](n:Nat)(a:α):AI g n a n=a:=?B
theorem Dx[?mC]{n j:Nat}(a:α)(h:j≠n):AI g n a j=g j:=?X
theorem Kw.snoc{xs:Ar}{n:Nat}[?aE][?iH](h:?mL)(b:?vY EL ?aH) :
 Kw xs ?eH (ls++[?vY Gb ?aH]) (?xU (?aH+1)-k0) (?nV) ?tQ:=by
 obtain⟨zs,ks,Ls,Gs,fs,lp,rp,t,rfl,rfl,rfl⟩:=h;refine⟨AI zs ?eH (?xU (?aH+1)-k0),AI ks n k0,AI Ls ?eH ?nV,AI Gs ?eH ?tQ,AI fs n f,AI lp n l,AI rp n r,⟨?_,?_,?nZ,?nZ⟩,F7 ..,F7 ..,F7 ..⟩
 . rw[qc0,t.len];rfl
 . rw[?i1,?f9,?h0];exact t.z0
 . by_cases e:j=n
   . subst e;rw[F7,F7,F7,F7,F7];exact ?oU
   . rw[?i1,?s5,?f9,?h0,?nT];exact ?n9
 . by_cases e:j=n
   . subst e;rw[?i1,?f9,?h0,F7,F7,F7,F7];exact⟨b,by rw[qe0 (by rw[t.len];exact ?b3),t.len,qj0];rfl⟩
   . rw[?i1,?f9,?h0,?s5,Dx fs _ e,Dx lp _ e,?nT];obtain⟨h1,h2⟩:=?uO;exact⟨h1,by rw[qd1 (by rw[t.len];omega)];exact h2⟩
theorem Kw.lev{xs:Ar}{n:Nat}[?aE]{z:Nat}{L G:Lat.Mat}(h:?mL):∀(j:Nat) ps,?x2 j->aG xs ?d2 ps:=fun j ps e=>by
 obtain⟨zs,ks,Ls,Gs,fs,lp,rp,t,_⟩:=h;have hj:=(?a6 e).1;rw[t.len]at hj;obtain⟨h1,h2⟩:=t.lv j hj;rw[h2]at e;cases e;exact⟨_,_,_,_,_,_,_,h1,rfl⟩
universe Hb
namespace L2
open PySem PySem.Spec PyProof.Rows
mutual
def pI:D->PyData
 | ?bT=>?hW
 | ?iF=>?k7
 | ?Y=>?Y
 | ?i8=>?i8
 | ?lH=>.tuple ?eV
 | ?jX=>.list ?eV
 def toPDs:?C D->?C PyData
 | []=>[]
 | d::ds=>pI d::?mN
 end
section
variable{X:Cx}[?iN]
mutual
theorem lY(I:?nB):∀(d:D) {v:V}{u:Value},Rep X.K H v d->RelV v u->∃as,Reads s.heap u (pI d) as
 | ?bT,v,u,h,r=>by
   cases (?x0 ?bT);obtain rfl:u=?hW:=r;exact⟨_,?hW⟩
 | ?iF,v,u,h,r=>by
   cases (?x0 ?iF);obtain rfl:u=?k7:=r;exact⟨_,?k7⟩
 | ?Y,v,u,h,r=>by
   cases (?x0 ?Y);obtain⟨t,rfl⟩:=r;exact⟨_,?d i t⟩
 | ?i8,v,u,h,r=>by
   cases (?x0 ?i8);obtain⟨t,rfl⟩:=r;exact⟨_,.str x t⟩
 | ?lH,v,u,h,r=>by
   ext vD;ext m4;obtain⟨o,ho,hc,n,hd⟩:=(?w8 a)
   obtain⟨as,ra⟩:=?tF;exact⟨as,.tuple ho hc hd (by simpa using ra)⟩
 | ?jX,v,u,h,r=>by
   ext vD;obtain⟨its,rv,p,hz⟩:=?tG;obtain⟨o,ho,hc,n,hd⟩:=p.isList;obtain⟨as,ra⟩:=?tF;exact⟨a::as,.list ho hc hd (by simpa using ra)⟩
theorem readsAll_of(I:?nB):∀(ds:?C D) [?dI]{us:?dN},Reps X.K H vs ds->Vals vs us->∃as,ReadsAll s.heap us ?eV as
 | [],vs,us,h,r=>by
   cases (show vs=[] from h);cases r;exact⟨_,.nil⟩
 | d::ds,vs,us,h,r=>by
   obtain⟨v,q,rfl,hv,hq⟩:=h;cases r with
   | cons r1 r2 =>
     obtain⟨as,ra⟩:=lY I d hv r1;obtain⟨bs,rb⟩:=?o2 I ds hq r2;exact⟨_,?fD ra rb⟩
end
universe e9
mutual
theorem BD:∀d:D,?n0=false
 | ?bT=>rfl
 | .bl _=>rfl
 | ?d _=>rfl
 | .str _=>rfl
 | ?lH=>?kP
 | ?jX=>?kP
 theorem hasDict_toPDs:∀ds:?C D,PyData.hasDictAll ?eV=false
 | []=>rfl
 | d::ds=>by
   show(?n0 || PyData.hasDictAll ?eV)=false;rw[BD d,?kP];rfl
end
universe L2
namespace L2
open PySem PySem.Spec PyProof.Rows
section
variable{X:Cx}[?I]
universe e9
section
variable{X:Cx}[?iN]
universe e9
structure Fin(B k:Nat)(p:PyData):Prop where
 sh:p.showable=true
 le:p.shown.length<=B
 dp:p.depth<=k
section
variable[?iI]
universe e9
section
variable{prog:Program}{w:World}{A:Around}{R:Result->?r2}
universe e9
universe L2
namespace Hb
open PySem L2
theorem Rows.drop{H H1 H2:Hp}{D C:Addr}{as:?uQ}{w k:Nat}[?mE](R:Rows H H1 D as w f)(hC:H1 C=none)(h2:H2=upd H1 C (?s ((?tW).map ?gX))):Rows H H2 C (?tW) w (?mQ):=by
 subst h2;refine⟨R.same.trans (?aJ hC),R.same.free hC,Ab,fun j a e=>?_⟩;rw[qv2]at e;obtain⟨h1,h3,h4⟩:=R.row (k+j) a e;have ne:a≠C:=fun z=>by rw[z,hC]at h4;cases h4
 exact⟨h1,ne,by rw[Al ne];exact h4⟩
section
variable[?v]
universe e9
def Hj(H:Hp)(v:V)(p:Bv):Prop:=∃t a b c,v=?m t/\H t=?c (?D [?d p.1,?z,?b5,?d4])/\H a=?c (.dK (cK p.2.1))/\H b=?wD ?kM/\H c=?wD ?hF/\b≠c
theorem Hj.same{H H':Hp}{v:V}{p:Bv}(h:?eG)[?iU]:Hj H' v p:=by
 obtain⟨t,a,b,c,e,h1,h2,h3,h4,ne⟩:=h;exact⟨t,a,b,c,e,?qJ,s _ _ h2,s _ _ h3,s _ _ h4,ne⟩
def Bz(H:Hp):?yC ?g ?a0
 | [],[]=>True
 | ?eQ,?dW=>?eG/\?d1
 | _,_=>False
theorem Bz.same{H H':Hp}[?iU]:?rK
 | [],[],h=>h
 | ?eQ,?dW,h=>⟨h.1.same s,Bz.same s h.2⟩
 | [],?Q,h=>h.elim
 | ?Q,[],h=>h.elim
theorem Bz.len{H:Hp}:∀[?dE],?d1->vs.length=ps.length
 | [],[],_=>rfl
 | ?eQ,?dW,h=>by rw[qc8,qc8,Bz.len h.2]
 | [],?Q,h=>h.elim
 | ?Q,[],h=>h.elim
theorem Bz.snoc{H:Hp}:∀[?dE]{v:V}{p:Bv},?d1->?eG->Bz H (vs++[v]) ?qS
 | [],[],v,p,_,h=>⟨h,trivial⟩
 | u::vs,q::ps,v,p,h,h2=>⟨h.1,Bz.snoc h.2 h2⟩
 | [],?Q,_,_,h,_=>h.elim
 | ?Q,[],_,_,h,_=>h.elim
theorem Bz.get{H:Hp}:∀[?dE]{i:Nat}{v:V},?d1->?eO->∃p,ps[i]?=?gZ/\?eG
 | [],[],i,v,_,e=>by simp at e
 | u::vs,q::ps,0,v,h,e=>⟨q,rfl,by have:u=v:=?hH
                                  subst this;exact h.1⟩
 | u::vs,q::ps,i+1,v,h,e=>by
   have e':?eO:=?hH
   obtain⟨p,h1,h2⟩:=Bz.get h.2 e';exact⟨p,?aL,h2⟩
 | [],?Q,_,_,h,_=>h.elim
 | ?Q,[],_,_,h,_=>h.elim
theorem Hj.put{H:Hp}{D:Addr}{vs us:?g}{v:V}{p:Bv}(h:?eG)(hD:H D=?w6 vs):Hj (?xE us) v p:=by
 obtain⟨t,a,b,c,e,h1,h2,h3,h4,nbc⟩:=h
 have ne:∀{x:Addr}{o:HO},H x=?cL->(∀ws,o≠?s ws)->x≠D:=fun {x o} e h z=>by
  rw[z,hD]at e;cases e;exact h _ rfl
 exact⟨t,a,b,c,e,by rw[?xN h1];exact h1,by rw[?xN h2];exact h2,by rw[?xN h3];exact h3,by rw[?xN h4];exact h4,nbc⟩
theorem Bz.put{H:Hp}{D:Addr}{us0 us1:?g}(hD:H D=?w6 us0):∀[?dE],?d1->Bz (?xE us1) vs ps
 | [],[],h=>h
 | ?eQ,?dW,h=>⟨h.1.put hD,?l8 hD h.2⟩
 | [],?Q,h=>h.elim
 | ?Q,[],h=>h.elim
theorem fJ{k z:Nat}(h:k<=z)(f:?u):VI k f++?dL (z-k) (?G 0)=VI z (?sN f k):=by
 refine qo6 fun i=>?_;by_cases hi:i<k
 . rw[qd1 (by rw[Bq];exact hi),Ch hi,Ch ?t];unfold Lat.numAt;rw[?h1]
 . rw[qe0 (by rw[Bq];omega),Bq];by_cases hz:i<z
   . rw[Ch hz,qs1,?l ?t];unfold Lat.numAt;rw[?f hi]
   . rw[qg7 (by rw[qk2];omega),qg7 (by rw[Bq];omega)]
theorem mX(n:Nat)(f:?u):(Io n f).map ?G=VI n f:=rfl
theorem ED{a b:Int}(ha:a.natAbs<?lM)(hb:b.natAbs<?lM):?i2 a b:=Sk ha hb (by unfold bookF;decide)
section
variable[?v]
def i8:Sp:=fun vs H Q _=>bZ fun ?cI ?A ?T (ns:?e)=>Kh (vs=[?z,?bS,?b5]) ?V (?xA 1000) (?xH b ?gA) (ns.length=?e5) (∀[?iQ],?aC->?E->?b0=?wD (Rj (?rT ns))->?b2)
def Ux:Sp:=fun vs H Q _=>Ai7 fun(a tp nm r1 D1 D2 b2:Addr) (vl vg:V) ?A ?T (z k0 w:Nat) (L G:Lat.Mat) (f:?u) (l r:?eM)=>UL (vs=[?z,?bS,?m tp,vl,vg]) ?V ?bF (w=?dJ) (?xT vl (dT z ?bB L)) (?xT vg (dT z ?bB G)) (Ql K H tp nm r1 D1 D2 b2 z w k0 f l r) (z<=40) (k0<=z) (k0<=w) ((∀i,?aK->f i≠0)) (?bV z z ?bH l.1) (?bV z z ?bH l.2) (?sH) (?pI) (∀[?mB] (H':Hp),?aC->?E->?b0=?bE->Bz H' us (?jR)->?b2)
def Fn(D:Addr)(H:Hp)(vs:?g)[?bM]:Prop:=?uP/\∀(i:Nat) v ps,?eO->?nK->∃a us,v=?z/\a≠D/\?jN
def Nl(H:Hp)(vs:?g)[?bM]:Prop:=?uP/\∀(i:Nat) v ps,?eO->?nK->∃a us,v=?z/\?jN
def U1:Sp:=?wI (∀[?mB] [?bM] (H':Hp),?aC->?E->?b0=?bE->?tA->(?l9)->Nl H' us ls->?b2)
universe e9
theorem one_bits(n m:Nat):?bV n m ?bH ?dK:=fun i j _ _=>by
 have h1:1<?lM:=Nat.one_lt_two_pow (by unfold bookF;decide);unfold Lat.one;split
 . exact h1
 . exact qt4 (?bJ:0<1) h1
theorem iJ[?I]{H:Hp}{v:V}{n:Nat}(h:?xT v (dT n n fun i j=>if j=i then 1 else 0)):?xT v (dT n n ?dK):=by
 have e:(fun i j:Nat=>if j=i then ?eL else 0)=Lat.one:=by
  funext i j
  unfold Lat.one;by_cases h:i=j
  . rw[?a9,?l h.symm]
  . rw[?X,?f ?t0]
 rwa [e]at h
theorem RT[?I]{H:Hp}{C:Addr}{us:?g}{h w k:Nat}[?mE](hr:∀i u,us[i]?=?c u->i<h/\∃b,u=?b5/\?xH b (?tY))(hl:us.length=h)(hC:?xH C (us.drop k)):?xT ?k8 (dT (h-k) w ?mQ):=by
 refine DX hC (by rw[qi5,hl]) ?u4;have e:us[k+i]?=?c (us[k+i]' ?e9):=?cS;obtain⟨_,b,eb,hb⟩:=hr (k+i) _ e;exact⟨b,by rw[qv2,e,eb],hb⟩
def XO(us:?g):Prop:=∀u∈us,∃a,u=?z
theorem V4[?I]{H:Hp}{D b:Addr}{xs:?g}{o:HO}(h:?xH b xs)(ne:b≠D):SqL K ?fB b xs:=by
 rcases h with(h|⟨q,h⟩) | h
 . exact ?j (?j (?iZ))
 . ext vF
 . exact ?fF
theorem PM[?I]{H:Hp}{D b:Addr}{xs us:?g}{o:HO}(h:Dy K H b xs)[?mA]:Dy K ?fB b xs:=by
 rcases h with(h|⟨q,h⟩) | h
 . ext vH
   exact ?j (?j (?iZ))
 . ext vH
   ext vF
 . exact ?fF
theorem BR[?I]{H:Hp}{D t:Addr}{us:?g}{h w:Nat}[?mE]{o:HO}(hr:?xT (?m t) (dT h w f))(ne:t≠D)(hw:0<h->0<w)[?mA](TV:XO us):Rep K ?fB (?m t) (dT h w f):=by
 obtain⟨_,tu,ez,hq,hl,Nb⟩:=Hf hr;cases ez;refine DX (V4 hq ne) hl ?u4;have e:tu[i]?=?c (tu[i]' ?e9):=?cS;obtain⟨_,b,eb,hb⟩:=Nb i _ e;refine⟨b,by rw[e,eb],?_⟩;rcases hb with(hb|⟨q,hb⟩) | hb
 . refine V4 (?j (?j hb)) ?dA;rw[z,hD]at hb;have e1:us=?tY:=by injection hb with e;injection e
   have hw':=hw O9m;have e2:us[0]?=?wX (f i 0):=by rw[e1];exact Ch hw'
   obtain⟨c,hc⟩:=TV _ (qc6 e2);cases hc
 . refine V4 (?j (?r ⟨q,hb⟩)) ?dA;rw[z,hD]at hb;cases hb
 . exact ?r hb
structure GP(D nm r1 D1 D2 b2:Addr):Prop where
 e1:nm≠D
 e2:r1≠D
 e3:D1≠D
 e4:D2≠D
 e5:b2≠D
theorem Ql.put[?I]{H:Hp}{D tp nm r1 D1 D2 b2:Addr}[?vK]{us:?g}{o:HO}(x:?wY H)(ne:?t9)[?mA](TV:XO us):?wY ?fB :=
 ⟨PM x.tup hD,V4 x.num ne.e1,?xV x.left ne.e2,?xV x.lback ne.e3,?xV x.right ne.e4,?xV x.rback ne.e5⟩
theorem Zf.ne[?I]{H H':Hp}{tp nm r1 D1 D2 b2 D:Addr}[?vK]{o:HO}(x:Zf K H H' tp nm r1 D1 D2 b2 n w k f l r)(hD:H D=?cL):?t9:=by
 have go:∀a,(a=nm\/a=r1\/a=D1\/a=D2\/a=b2)->a≠D:=fun a h z=>by
  have:=(x.new a h).1;rw[z,hD]at this;cases this
 exact⟨go _ (?j rfl),go _ (?r (?j rfl)),?xL ?j rfl,?xL ?r (?j rfl),?xL ?r (?r rfl)⟩
def uL[?v](H:Hp)(a D:Addr)(xs:Ar)(k:Nat)(σ:St)(G':Hp):Prop :=
 ∃(us:?g) (ls:?f5) (la ga:Addr) (z:Nat) (L G:Lat.Mat) (o4 o5 o6 o7:?gE V),σ=[rS a,rS D,rS la,rS ga,o4,o5,o6,o7]/\?oZ/\G' D=?bE/\ls.length=k/\?yF k/\Fn D G' us ls/\la≠D/\ga≠D ∧
   Rep K G' (?m la) (dT z ?eB L)/\Rep K G' (?m ga) (dT z ?eB G)/\Lat.Lev (?xU (?T-1)) ?eB z (Jg xs ?T) L G/\z<=?eZ/\?bV z ?eB ?bH L/\?bV z ?eB ?bH G
theorem Fn.out{D:Addr}{H:Hp}[?dI][?aE][?iR]:?p4 :=
 (?wE _ ⟨a,us,e,h1,h2⟩)
theorem Fn.same{D:Addr}{H H':Hp}[?dI][?aE][?iR][?iU]:Fn D H' vs ls :=
 (?wE n ⟨a,us,e,n,?qJ,h2.same s⟩)
theorem Fn.refs{D:Addr}{H:Hp}[?dI][?aE][?iR]:XO vs:=fun u hu=>by
 obtain⟨i,hi⟩:=qh8 hu;have hl:=(?a6 hi).1;have h0:=h.1;obtain⟨a,_,e,_⟩:=h.2 i u _ hi (?cS);exact⟨a,e⟩
theorem Fn.snoc{D E:Addr}{H:Hp}{vs eu:?g}[?aE]{ps:?a0}[?iR](hD:H D=?w6 vs)(ne:E≠D)(hE:H E=?w6 eu)(r:Bz H eu ps):Fn D (?xE (vs++[?m E])) (vs++[?m E]) (ls++[ps]):=by
 refine⟨by rw[qc0,qc0,h.1];rfl,fun i v qs e1 e2=>?_⟩;have h0:=h.1;by_cases hi:?qM
 . rw[qd1 hi]at e1;rw[qd1 ?t]at e2;obtain⟨a,us,e,n,h1,h2⟩:=h.2 i v qs e1 e2;exact⟨a,us,e,n,by rw[Al n];exact h1,?l8 hD h2⟩
 . have hi2:=(?a6 e1).1;rw[qc0,qt6]at hi2;have ei:?tD:=O9m
   subst ei;rw[?i3,qj0]at e1;rw[h0,?i3,qj0]at e2;have q1:v=?m E:=by simpa using e1.symm
   have q2:qs=ps:=by simpa using e2.symm
   subst q1 q2;exact⟨E,eu,rfl,ne,by rw[Al ne];exact hE,?l8 hD r⟩
universe Hb
namespace L2
open PySem PySem.Spec PyProof.Rows PySem.SeqAt
section
variable{X:Cx}{n:Nat}[?I]
universe e9
universe L2
namespace Hb
open PySem L2
def V9[?aF]:?a0:=ps.filter fun p=>?q (p.1≠1)
theorem DH[?aF](p:Bv):V9 ?qS=if ?hL then ?hC else ?hC++[p]:=by
 unfold V9;rw[qh4];by_cases h:?hL
 . rw[?a9,qj6,?f (by simp[h]),qo1,qp9]
 . rw[?X,qj6,?l (by simp[h]),qo1]
def lift1(fl:Ms)[?eY](g:?aU):?aP:=lf.set ?rA (Gj (lf.getD ?rA []) (Tf g.2 fl))
def HY[?eY](p:Bv):?aP:=if ?hL then p.2.2.1.foldl (lift1 ?hF) lf else lf
def U5[?eY][?aF]:?aP:=ps.foldl HY lf
def M5(n:Nat)[?bM]:?aP:=ls.foldl U5 (?dL n [])
structure Lk(ms:Ms):Prop where
 n:?bZ
 z:nz ms
 k:inK ms
theorem Lk.nil:Lk []:=⟨List.nodup_nil,(fun p h=>?iE),(fun p h=>?iE)⟩
theorem Lk.len{ms:Ms}(h:Lk ms):ms.length<=40:=by
 have:=MY (?O fun(p:?aU)=>p.1) (EM 40) h.n fun x hx=>by
  obtain⟨p,hp,rfl⟩:=?S hx;have:=h.k p hp;unfold EM;exact qf8.mpr ⟨?fV,?lC,O9m⟩
 rwa [qa2,Mj]at this
theorem dS{ms:Ms}{j:Int}(h:Cz ms j≠0):j∈?O (·.1):=by
 by_cases e:j∈?O (·.1)
 . exact e
 . exact ?U (L7 e) h
theorem Lk.plus{ms ns:Ms}(h1:Lk ms)(h2:Lk ns):Lk (Gj ms ns):=by
 obtain⟨r1,r2,_,r4⟩:=HM ns ms h1.n h1.z h2.n;refine⟨r1,r2,?i7⟩;have e:=DN r1 hp;have e2:Cz (Gj ms ns) p.1=p.2:=by unfold Cz;rw[e];rfl
 have hz:=r2 p hp;rw[←e2,r4]at hz
 have:p.1∈?O (·.1)\/p.1∈?jP (·.1):=by
  by_cases q:Cz ms p.1=0
  . exact ?r (dS O9m)
  . exact ?j (dS q)
 rcases this with h | h
 . obtain⟨q,hq,eq⟩:=?S h;rw[←eq];exact h1.k q hq
 . obtain⟨q,hq,eq⟩:=?S h;rw[←eq];exact h2.k q hq
theorem Lk.times{ms:Ms}(h:Lk ms)(n:Int):Lk (Tf n ms):=by
 unfold Tf;split
 . exact Lk.nil
 . rename_i hn
   refine⟨?_,?i7,?i7⟩
   . have:=h.n;unfold nd at this ⊢;rw[ql1];exact this
   . obtain⟨q,hq,rfl⟩:=?kJ;exact Int.mul_ne_zero hn (h.z q hq)
   . obtain⟨q,hq,rfl⟩:=?kJ;exact h.k q hq
def Zd(n:Nat)[?eY]:Prop:=lf.length=n/\∀m∈lf,Lk m
theorem Zd.at{n:Nat}{lf:?aP}(h:Zd n lf)(i:Nat):Lk (lf.getD i []):=by
 rw[qa4];cases e:lf[i]? with
 | none=>exact Lk.nil
 | some m=>exact h.2 m (qc6 e)
theorem Zd.lift1{n:Nat}{lf:?aP}{fl:Ms}(h:Zd n lf)(hf:Lk fl)(g:?aU):Zd n (lift1 fl lf g):=by
 refine⟨by unfold Hb.lift1;rw[qi3];exact h.1,?s7⟩;rcases qm7 hm with q | rfl
 . exact h.2 m q
 . exact(h.at _).plus (hf.times _)
structure oJ(n:Nat)(p:Bv):Prop where
 gk:∀g∈?kM,0<=g.1/\g.1<?aH
 fl:Lk ?hF
 mul:∀g∈?kM,∀q∈?hF,?i2 g.2 q.2
def Fq(O H:Hp)(vs:?g)[?eY]:Prop:=vs.length=lf.length/\∀(i:Nat) v,?eO->∃c,v=?d4/\?l1/\H c=?wD (lf.getD i [])
theorem Zd.first(n:Nat):Zd n (?dL n []):=⟨qk2 ..,fun m hm=>by rw[(qv1.mp hm).2];exact Lk.nil⟩
theorem Fq.same[?vI][?iU]:?rZ :=
 (?xG ⟨c,e1,e0,s _ _ e2⟩)
theorem Fq.keep[?vI](s:∀c kvs,?l1->H c=?c (.dK kvs)->H' c=?c (.dK kvs)):?rZ :=
 (?xG ⟨c,e1,e0,s _ _ e0 e2⟩)
theorem Fq.snoc[?v5]:Fq O H (vs++[?d4]) (lf++[m]):=by
 have h0:=h.1;refine⟨by rw[qc0,qc0,h0];rfl,fun i v ei=>?_⟩;rw[qa4];by_cases hi:?qM
 . rw[qd1 hi]at ei;rw[qd1 ?t,←qa4];exact h.2 i v ei
 . have hi2:=(?a6 ei).1;rw[qc0,qt6]at hi2;have eq:?tD:=O9m
   subst eq;rw[?i3,qj0]at ei;rw[h0,?i3,qj0];have q1:v=?d4:=by simpa using ei.symm
   exact ?mP
theorem Fq.set[?v5](i:Nat):Fq O H (vs.set i (?d4)) (lf.set i m):=by
 have h0:=h.1;refine⟨by rw[qi3,qi3,h0],fun j v ej=>?_⟩;rw[qa4];by_cases q:i=j
 . subst q;have hl:=(?a6 ej).1;rw[qi3]at hl;rw[qo4 hl]at ej;rw[qo4 ?t];have q1:v=?d4:=by simpa using ej.symm
   exact ?mP
 . rw[qk4 q]at ej;rw[qk4 q,←qa4];exact h.2 j v ej
def Jw(_K:W.Frag):Sp:=fun vs H Q _=>Rs fun ?c5 ?j8 (ps:?a0)=>Ed ?gH (H a=?bE) (?tN) (ps.length<=1000) (∀(D:Addr) (us':?g) (H':Hp),?aC->?E->?b0=?w6 us'->Bz H' us' (?hC)->?b2)
def Uy[?v]:Sp:=fun vs H Q _=>bZ fun ?cI ?A ?j8 ?gM=>Nm (vs=[?z,?b5]) ?V ?bF (H b=?bE) (Nl H us ls) ((∀ps∈ls,?pW)) (∀(D:Addr) (ws:?g) (H':Hp),?aC->?E->?b0=?w6 ws->Fq H H' ws (M5 ?aB ls)->?b2)
theorem T6(n:Nat):Dh n=((n-1:Nat):Int):=by
 unfold Dh;ext bN
theorem KH{xs:Ar}{p:?e}(h:Ai6 xs p):Yi xs (tI p)=true:=by
 have bl:∀f∈p,∃q,?iV=?fK/\?jT=q/\f.toNat<xs.length/\q.length-1+1=p.length-1:=fun f hf=>by
  obtain⟨q,e,l⟩:=h.bel f hf;obtain⟨hlt,_⟩:=?a6 e;exact⟨q,e,by rw[qa4,e];rfl,hlt,l⟩
 show Yi xs (?D (Fg p))=true;rw[Po];have hl:(Fg p).length=p.length:=by simp[Fg]
 rw[hl];simp only[qc3,qq1];refine⟨⟨?_,?_⟩,?_⟩
 . rcases h.cnt with e | e | e | e<;>rw[e]<;>rfl
 . rw[qe9];intro d hd;obtain⟨f,hf,rfl⟩:=?S hd;obtain⟨q,e,eq,hlt,l⟩:=bl f hf;have h0:=h.low f hf;show(?q (0<=f)&&?q (f<?M)&&?q (Dh ?oD=Dh p.length-1))=true;rw[eq,T6,T6];simp only[qc3,qo5];omega
 . by_cases h3:3<=p.length
   . right
     have e0:(Fg p).map sQ=p:=by
      unfold Fg;rw[ql1];exact ?n7 p
     rw[e0];ext vE;have hj:=?k9;have hi:=?e7;unfold S9;rw[qo5];have ej:p[j]?=?c p[j]:=?lD;have ei:p[i]?=?c (p[i]' ?e9):=?cS;obtain⟨q,e1,e2,_⟩:=bl p[j] (?l2);obtain⟨r,e3,e4,_⟩:=bl (p[i]' ?e9) (?cC);have key:=h.agr h3 i j _ _ q r hi ej ei e1 e3;rw[show ?iG=p[j] by rw[qa4,ej];rfl,show ?fX=p[i]' ?t by rw[qa4,ei];rfl,e2,e4,qa4,qa4,key]
   . left;rw[T6];simp;omega
theorem Wf[?cA]{v:?u}{q:?aU}(h:q∈?u9):(0<=q.1/\?kK)/\∃c,c<?gW/\q.2=v c:=by
 obtain⟨h1,h2⟩:=RU h;have h3:=Et h1;obtain⟨c,hc,e⟩:=?S h2;exact⟨⟨h3.1,h3.2.1⟩,c,?iB hc,?jJ⟩
theorem xJ{xs:Ar}(N4:?h8)(k:Int)(v:?u):Lk (?u9):=by
 refine⟨?_,?kR,?kR⟩
 . have:=LL (sp:=?aA) (ns:=?oX) (by rw[Pj]) (?lO);unfold nd at this ⊢;exact this.sublist (List.Sublist.map _ (qu7 ..))
 . have:=(?lU hq).2;simpa using this
 . have:=(Wf hq).1;omega
theorem aG.ok[?cA][?vL]:?pW:=by
 obtain⟨z,k0,L,G,f,l,r,bl,rfl⟩:=h;intro p hp;obtain⟨i,hi,rfl⟩:=?kJ;have hi:=?e7;have hz:z<=40:=?mU;refine⟨fun g hg=>(Wf hg).1,?_,fun g hg q hq=>?_⟩
 . show Lk (?kG);split
   . exact Lk.nil
   . exact xJ N4 _ _
 . obtain⟨_,c,hc,e⟩:=Wf hg
   replace hq:q∈(?kG):=hq
   split at hq
   . cases hq
   . rename_i e0
     have hik:?aK:=by
      by_cases hh:?aK
      . exact hh
      . unfold Lat.numAt at e0;rw[?f hh]at e0;exact ?U rfl e0
     obtain⟨_,d,hd,e2⟩:=Wf hq
     have h1:(?dM z l.1 G i c).natAbs<2 ^ (bookF+bookF+z):=OF fun j hj=>by
      rw[qb0,qd7];exact qp0 (bl.fin.bl.1 i j hi hj) (bl.bG j c hj hc)
     have h2:=bl.fin.br.1 i d (qb3 hik bl.kw) hd;rw[e,e2];exact Sk h1 h2 (by unfold bookF;omega)
theorem Bz.kd{H H':Hp}(s:∀c o,H c=?cL->((∃l,o=?D l)\/∃l,o=.dK l)->H' c=?cL):?rK
 | [],[],h=>h
 | ?eQ,?dW,h=>by
   obtain⟨⟨t,a,b,c,e,h1,h2,h3,h4,ne⟩,h5⟩:=h;exact⟨⟨t,a,b,c,e,s _ _ h1 (?j ?b6),?xS h2,?xS h3,?xS h4,ne⟩,Bz.kd s h5⟩
 | [],?Q,h=>h.elim
 | ?Q,[],h=>h.elim
theorem aG.len[?cA][?vL]:ps.length<=40:=by
 obtain⟨z,k0,L,G,f,l,r,bl,rfl⟩:=h;unfold Gb;rw[qa2,qi8];exact ?mU
def kD(H:Hp)(d:Addr):Hp:=fun a=>if a=d then none else H a
theorem Kt{H:Hp}{c d:Addr}(h:c≠d):kD H d c=H c:=?X
theorem ID{H:Hp}{d:Addr}:kD H d d=none:=?B
theorem KC{H:Hp}{d:Addr}:?y ?rP H:=fun c o e=>by
 by_cases h:c=d
 . rw[h,ID]at e;cases e
 . rwa [Kt h]at e
theorem NJ{O H:Hp}{d:Addr}(s:?y O H)(h:O d=none):?y O ?rP:=fun c o e=>by
 rw[Kt (Ap e h)];exact s c o e
structure Zh[?v](C:Addr)(B:Hp)(p:Addr)(xs:Ar)[?bM]:Prop where
 ob:xV fun dx P Lv Lf lu wu=>B p=?c (.ins C dx [(?qB,?m P),(?s3,?m Lv),("lifts",?m Lf)])/\Ed (LT K B (?m P) xs) (B Lv=?w6 lu) (Nl B lu (ls.map V9)) (B Lf=?w6 wu) (Fq (fun _=>none) B wu (M5 ?aB ls))
 sh:?dR
 len:?h8
 n4:?tA
 lev:∀(k:Nat) ps,?x2 k->aG xs ?T ps
 tie:?l9
def HD[?v]:Sp:=fun vs H Q _=>Jp fun ?gR ?A=>B6 (vs=[v]) (LT K H v xs) ?bF (Q (.bl true) H)
def Wq[?v]:Sp:=?yG (∀H',?E->?j0)
def Rv[?v]:Sp:=?yG (?wR true)
def cL[?v](C:Addr):Sp:=fun vs H Q _=>xV fun(p dx a:Addr) ?j8 (H0:Hp) ?A=>iY (vs=[?bO,?z]) (H p=?c (.ins C dx [])) (H a=?bE) (Reps K H0 us (xs.map tI)) (?y H0 H) (H0 a=none) (H0 p=none) ?eK ?bF (∀(B:Hp) [?bM] (H':Hp),SameX p H H'->?hR->?y H0 B->?y B H'->B a=none->?j0)
theorem Nl.at{H:Hp}[?dI][?aE]{k:Nat}(h:?p4)(hk:k<ls.length):∃a us ps,vs[k]?=?jE/\?x2 k/\?jN:=by
 have h0:=h.1;have e1:vs[k]?=?c (vs[k]' ?e9):=?cS;have e2:ls[k]?=?c ls[k]:=qa0 hk;obtain⟨a,us,e,h1,h2⟩:=h.2 k _ _ e1 e2;exact⟨a,us,_,by rw[e1,e],e2,h1,h2⟩
universe Hb
namespace L2
open PySem PySem.Spec PyProof.Rows PySem.SeqAt
section
variable{X:Cx}
universe e9
universe L2
namespace Hb
open PySem L2
universe Hb
namespace L2
open PySem PySem.Spec PyProof.Rows
universe L2
namespace Hb
open PySem L2
def V0[?aF]:Nat:=(?t1 fun p=>?q (p.1=0)).length
def zD[?aF]:?e:=(?t1 fun p=>?q (p.1≠0)).map (·.1)
theorem IL[?cA][?iH](h:k0<=z):(?jR).map (·.1)=Io k0 f++?dL (z-k0) 0:=by
 unfold Gb Io;rw[ql1];refine qo6 fun i=>?_;rw[qa9];by_cases hi:?aK
 . rw[qd1 (by rw[qa2,qi8];exact hi),qa9,ql2 hi,ql2 ?t];show ?q1=?c (f i);unfold Lat.numAt;rw[?h1]
 . rw[qe0 (by rw[qa2,qi8];omega),qa2,qi8,qs1];by_cases hz:i<z
   . rw[ql2 hz,?l ?t];show ?q1=?c 0;unfold Lat.numAt;rw[?f hi]
   . rw[qg7 (by rw[qi8];omega),?bP];rfl
theorem KS[?aF]:V0 ps=((ps.map (·.1)).filter ?n4).length:=by
 unfold V0 V9;rw[List.filter_filter,List.filter_map,qa2]
 congr 1
 refine qv9 fun p _=>?_;by_cases h:p.1=0
 . simp[h]
 . simp[h]
theorem LP[?aF]:zD ps=(ps.map (·.1)).filter ?s6:=by
 unfold zD V9;rw[List.filter_filter,List.filter_map]
 congr 1
 refine qv9 fun p _=>?_;by_cases h:p.1=0<;>by_cases h1:?hL<;>simp[h,h1]
theorem EL.count{xs:Ar}{j:Int}[?iH](b:?uS):V0 (?vY Gb j)=z-k0:=by
 rw[KS,IL b.kz,qh4,qc0]
 have e1:?sZ (?n4)=[]:=?j6 fun n hn=>by
  ext v9;simp;omega
 rw[e1,List.filter_eq_self.mpr fun n hn=>by rw[(qv1.mp hn).2];rfl,qk2,qk8,qo8]
theorem EL.twist{xs:Ar}{j:Int}[?iH](b:?uS):zD (?vY Gb j)=?sZ fun n=>?q (1<n):=by
 rw[LP,IL b.kz,qh4];have e1:(?dL (z-k0) ?aI).filter (?s6)=[]:=?j6 fun n hn=>by rw[(qv1.mp hn).2];simp
 rw[e1,qp9];refine qv9 ?mG;ext v9;by_cases h:1<f i
 . rw[qg3 h,qg3 ?t]
 . rw[qi9 h,qi9 ?t]
def nL(ns:Ar):D:=?s (?jP fun n=>?s (Fg n))
section
variable[?v]
def j7(C:Addr):Sp:=fun vs H Q _=>bZ fun ?jD ?T ?l5 ?A ?gM=>Kh (vs=[?bO,?bS]) (?hR) (?y B H) ?iX (k<4) (∀[?aF] (H':Hp),?x2 k.toNat->?E->Q (?d ((V0 ps:Nat):Int)) H')
def Ww(C:Addr):Sp:=fun vs H Q _=>bZ fun ?jD ?T ?l5 ?A ?gM=>Kh (vs=[?bO,?bS]) (?hR) (?y B H) ?iX (k<4) (∀[?aF] [?iQ],?x2 k.toNat->?y4 ((zD ps).map ?G))
universe e9
universe Hb
namespace Lat
open Hb
section
variable{q m z w k E:Nat}{D L G B P PB Q QB:Mat}{f:?u}
theorem turn_sum(il:Lm z (P,PB))(c d:Nat):?pU=Ai (fun a=>G a c*L a d) z:=by
 have e1:?pU=Ai (fun i=>Ai (fun a=>Ai (fun b=>PB i b*P i a*(G a c*L b d)) z) z) z:=Ag fun i _=>by
  show Ai (fun j=>?dX*G j c) z*Ai (fun j=>PB i j*L j d) z=_;rw[←Cv];refine Ag fun a _=>?_;rw[←Ay];exact Ag fun b _=>?fZ
 rw[e1,Bw];refine Ag fun a ha=>?_;rw[Bw]
 have e2:∀b,b<z->Ai (fun i=>PB i b*P i a*(G a c*L b d)) z=(?rU)*(G a c*L b d):=fun b hb=>by
  rw[Cv]
  congr 1
  exact il b a hb ha
 rw[Ag e2,?aM ha fun b _ ne=>by rw[?kY,qh6],?B,qd0]
theorem gauge_edge(dg:Gg z w k E (gT m G B) P PB Q QB f)(ir:Lm w (Q,QB)){i c:Nat}(hi:i<z)(hc:c<w):?uT=numAt f k i*?hN:=by
 have e1:∀c',?cY=?yB ?sD:=fun c'=>by
  have:?cY=?x7 (fun a=>?yB (G j a*?kL)):=Ag fun a _=>by
   show Ai (fun j=>?dX*G j a) z*?kL=_;rw[←Cv];exact ?xW qe1
  rw[this,Bw];exact Ag fun j _=>by rw[Ay];rfl
 have e2:∀y,y<w->?k6=?qQ:=fun y hy=>by
  rw[←dg.diag i y hi hy];unfold N5
  have:?k6=Ai (fun c'=>?yB (?sD*?f2)) w:=Ag fun c' _=>by
   rw[e1,←Cv];exact ?xW qe1
  rw[this,Bw];exact Ag fun j _=>?p1
 have e3:?uT=?fE:=by
  have h1:?fE=?q0:=by
   have:?fE=Ai (fun y=>?wG (?f8*?f2)) w:=Ag fun y _=>by
    rw[←Cv];exact Ag fun c' _=>?fZ
   rw[this,Bw];exact Ag fun c' _=>?p1
  rw[h1];have h2:∀c',c'<w->?oS=?r4:=fun c' hc'=>ir c c' hc hc'
  have h3:?q0=?wG ?r4:=Ag fun c' hc'=>by rw[h2 c' hc']
  rw[h3,?aM hc fun b _ ne=>by rw[?jY,qe2],?B,ql3]
 have e4:?fE=Ai (fun y=>(?qQ)*?f8) w:=Ag fun y hy=>by rw[e2 y hy]
 rw[e3,e4];have mn:=dg.mn;have mw:=dg.mw;by_cases hw:i<w
 . rw[?aM hw fun b _ ne=>by rw[?jY,qh6],?B];unfold numAt;by_cases hk:i<k
   . rw[?l hk]
   . rw[?f hk,dg.zero i ?t hi hw]
 . rw[?bI fun y hy=>by rw[?bP,qh6]];unfold numAt;rw[?bP,qh6]
universe e9
universe Lat
namespace Hb
open PySem L2
theorem Jt[?cB]{j:Nat}(hj:?mM):?kC j 0∈l:=by rw[qa4,?lD];exact ?l2
theorem VY[?cB](h:l.Nodup){i j:Nat}(hi:i<l.length)(hj:?mM)(e:l[i]=l[j]):i=j:=by
 have h1:=List.pairwise_iff_getElem.mp h;rcases qk5 i j with q | q | q
 . exact ?U e (h1 i j hi hj q)
 . exact q
 . exact ?U ?jJ (h1 j i hj hi q)
theorem sumN_cut(f:?u)(a:Nat):∀b,?uY=?k5+Ai (fun i=>f (a+i)) b
 | 0=>by show ?k5=?k5+0;rw[qn4]
 | b+1=>by
   show ?uY+f (a+b)=_+(_+f (a+b))
   rw[sumN_cut f a b,Int.add_assoc]
def blw:Nat->(?u)->Int
 | 0,_=>0
 | j+1,f=>f j
theorem jC{xs:Ar}{n:Nat}[?v6][?aE](t:?t6) :
 ∀{k:Nat},k<n->∀{c d:Nat},c<?eZ->d<?eZ →
 Ai (fun i=>?dM ?kW (lp k).1 (Gs k) i c*?dM ?kW (lp k).2 (Ls k) i d) ?kW+(blw k fun j=>?rB)=?tP:=fun {k} hk {c d} hc hd=>by
 have b:=(t.lv k hk).1;rw[Lat.turn_sum (P:=(lp k).1) (PB:=(lp k).2) b.fin.il];cases k with
 | zero =>
   obtain⟨e1,e2,e3⟩:=t.z0;show _+0=_;rw[e1,e2,e3,qn4];have:=(Lat.Lev.first ?aO (Jg xs 0)).du c d hc hd;rw[←this];exact Ag fun a _=>by unfold Lat.one;congr 1<;>(ext iO)
 | succ j =>
   obtain⟨e1,e2,e3⟩:=?n9;have bj:=(?uO).1;have ir:=bj.fin.ir c d hc hd;have kw:=bj.kw;show _+?rB=_;rw[←ir];show _=?wT (?hD);rw[e1,e2,e3,show ?hD=ks j+(?hD-ks j) by omega,sumN_cut,Nat.add_sub_cancel_left,Int.add_comm]
section
variable{xs:Ar}[?v6][?aE]
theorem y9(hs:?dR){k p:Int}(hp:?jC):∀f∈?e2,f∈?hA:=fun f hf=>by
 obtain⟨h0,h1,h2⟩:=Et hp;obtain⟨y,hy⟩:∃y,xs[p.toNat]?=?c y:=?qN
 have ey:?e2=y:=by rw[qa4,hy];rfl
 rw[ey]at hf h2;have ft:=hs ?c2 y hy;obtain⟨g,eg,lg⟩:=ft.bel f hf;have hl:=ft.low f hf;have hlt:=(?a6 eg).1;rw[qc4]at hlt;have e2:?iV=?c g:=by rw[ql9]at eg;split at eg<;>first | exact eg | cases eg
 refine Wa hl O9m ?_;rw[qa4,e2];show Dh g.length=k-1;have hc:=ft.cnt;unfold lev at lg;rw[←h2];unfold Dh;ext iO
universe e9
universe Hb
namespace Lat
open Hb
section
variable{m w k0:Nat}{B g ρ Q QB:Mat}{f:?u}{r:?dY}
theorem n0(pos:?sT)[?m0]
 [?lZ] {i K:Nat} (hi:?aK) (hK:K<m):?k0=0:=by
 have e:f i*?k0=0:=by
  rw[←Ay]
  have e1:?x7 (fun a=>f i*(?pB))=?x7 (fun a=>Ai (fun c=>(?uI)*Q i c) w):=Ag fun a ha=>by
   by_cases h:?c4
   . rw[?a9,←F4 i hi a ha];exact Ag fun c _=>by rw[?a9]
   . rw[?X,qe2];exact(?bI fun c _=>by rw[?X,qh6]).symm
  rw[e1,Bw];exact ?bI fun c hc=>by rw[Cv,h1 K hK c hc,qh6]
 have:=?nF;rcases qo2.mp e with z | z
 . omega
 . exact z
theorem Yg[?lW]{i:Nat}(hi:i<m)(u:?u):?uH=?hT*Ai (fun c=>?hN*u c) w:=by
 have e:?uH=?x7 (fun a=>Ai (fun c=>?d8*B a c*u c) w):=Ag fun a _=>by
  unfold mulV;rw[←Ay];exact Ag fun c _=>by rw[qe1]
 rw[e,Bw,←Ay];exact Ag fun c hc=>by rw[Cv,F3 i hi c hc,qe1]
theorem lots_one[?v3]
 [?lW]
 [?m0]
 [?lZ]
 [?v4] {i:Nat} (hi:?aK):f i=1:=by
 have hm:i<m:=O9m
 have hu:∃u:?eR,∀a,a<m->∀x,x<m->?k4=?l0 :=
  ⟨fun a=>if h:a<m then(h2 a h).choose else ?gD,fun a ha x hx=>by simp only[ha,dite_true];exact(h2 a ha).choose_spec x hx⟩
 obtain⟨u,hu⟩:=hu
 have e1:∀x,x<m->ρ i x=?mT:=fun x hx=>by
  have e2:?mT=?x7 (fun a=>(if x=a then ?aQ else 0)+-1*(if r a=x then ?aQ else 0)):=Ag fun a ha=>by
   rw[hu a ha x hx];by_cases z1:x=a
   . by_cases z2:r a=x
     . rw[?aV,?l ?g7,?aV,?c8];omega
     . rw[?aV,?f fun h=>z2 h.symm,?aV,?bC];omega
   . by_cases z2:r a=x
     . rw[?a8,?l ?g7,?a8,?c8];omega
     . rw[?a8,?f fun h=>z2 h.symm,?a8,?bC];omega
  rw[e2,Cd,Ay,n0 pos F4 h1 hi hx,?aM hx fun k _ ne=>?jY,?B];omega
 have e3:?sL=f i*?x7 (fun a=>?aQ*Ai (fun c=>?hN*u a c) w):=by
  have e4:?sL=?x7 (fun x=>Ai (fun a=>?aQ*(?dU*?k4)) m):=Ag fun x hx=>by
   conv=>lhs;rw[e1 x hx]
   rw[←Ay];exact Ag fun a _=>?fZ
  rw[e4,Bw,←Ay];refine Ag fun a _=>?_;rw[Ay,Yg F3 hm,show ?hT=f i from ?h1]
  grind
 rw[F1 i i hm hm,?B]at e3;have p:=?nF;have d:f i∣1:=⟨_,e3⟩
 have:=ql4 ?aW d;omega
theorem lots_many[?v3]
 (F2:∀c d,c<m->d<m->?x7 (fun i=>g i c*ρ i d)=?tP)
 [?lW]
 [?m0] (hr:∀a,a<m->r a<m) (rr:∀a,a<m->?sV)
 [?lZ]
 [?v4] :
 ?x7 (fun K=>if ?c1 then 1 else 0)=?rS:=by
 have same:∀i,k0<=i->i<m->∀a,a<m->g i ?cN=?d8:=fun i h0 hi a ha=>by
  obtain⟨u,hu⟩:=h2 a ha;have e:=Yg F3 hi u;rw[show ?hT=0 from ?bP,qh6]at e
  have e1:?x7 (fun x=>?dU*?sU)=?x7 (fun x=>(if x=a then ?dU else 0)+-1*(if ?hX then ?dU else 0)):=Ag fun x hx=>by
   rw[?gQ];by_cases z1:x=a<;>by_cases z2:?hX
   . rw[?aV,?c8,?aV,?c8];omega
   . rw[?aV,?bC,?aV,?bC];omega
   . rw[?a8,?c8,?a8,?c8];omega
   . rw[?a8,?bC,?a8,?bC];omega
  rw[e1,Cd,Ay,?aM ha ?gF,?aM ?d3 ?gF,?B,?B]at e;omega
 let T:?eR:=fun i K=>?n3
 have low:∀i,?aK->?eN=0:=fun i hi=>?bI fun K hK=>by
  show(if ?c1 then _ else _)=_;rw[n0 pos F4 h1 hi hK,qe2];split<;>rfl
 have high:∀i,k0<=i->i<m->?eN=1:=fun i h0 hi=>by
  have e1:?eN=Ai (fun K=>?x3 ?rN) m:=Ag fun K _=>by
   show(if ?c1 then _ else _)=_;by_cases h:?c1
   . rw[?a9,←Ay];exact Ag fun a _=>by rw[?a9];split<;>simp
   . rw[?X];exact(?bI fun a _=>?X).symm
  rw[e1,Bw]
  have e2:∀a,a<m->?x7 (fun K=>?rN)=?d8*?aQ:=fun a ha=>by
   rw[?aM ?d3 fun k _ ne=>by rw[?f (c:=r a=k) ?lA];split<;>rfl,?l (rr a ha),?B,same i h0 hi a ha]
  rw[Ag e2,F1 i i hi hi,?B]
 have tot:?x7 (fun i=>?eN)=?rS:=by
  have hm:m=k0+(m-k0):=O9m
  have e1:Ai (fun i=>?eN) (k0+(m-k0))=_:=Hb.sumN_cut _ k0 (m-k0);rw[←hm]at e1;rw[e1,?bI fun i hi=>low i hi,Ag (g:=fun _=>1) fun i hi=>high ?jG ?t ?t]
  have:∀n:Nat,Ai (fun _=>?eL) n=n:=fun n=>by
   induction n with
   | zero=>rfl
   | succ n ih=>show Ai _ n+1=_;rw[ih];omega
  rw[this];omega
 rw[←tot,Bw];refine Ag fun K hK=>?_;show _=?pH;by_cases h:?c1
 . rw[?a9]
   have e1:?pH=Ai (fun i=>?x3 ?lK) m:=Ag fun i _=>by
    rw[?a9,←Ay];exact Ag fun a _=>by split<;>simp
   rw[e1,Bw]
   have e2:∀a,a<m->?x7 (fun i=>?lK)=if ?c4 then(if K=a then 1 else 0) else 0:=fun a ha=>by
    by_cases z:?c4
    . rw[?cT,←F2 K a hK ha];exact Ag fun i _=>?cT
    . rw[?gL];exact ?bI fun i _=>?gL
   rw[Ag e2,?aM hK fun k _ ne=>by rw[?f (c:=K=k) ?lA];split<;>rfl,?a9,?B]
 . rw[?X];exact(?bI fun i _=>?X).symm
universe e9
universe Lat
namespace L2
open PySem PySem.Spec PyProof.Rows
def ZD:Int:=reduceHash (Builtin.Tuple.tupleHashOf [hashInt 0])
def hsh:V->Int
 | ?Y=>hashInt i
 | ?iF=>if b then 1 else 0
 | ?bT=>0xFCA86420
 | ?m _=>ZD
 | _=>0
section
variable[?iI]{s:Shared}
universe e9
section
variable{X:Cx}[?iN]{a:Addr}{y v:V}{u r:Value}[?vO]{o:Obj}{kvs:?C (V × V)}
universe e9
section
variable[?iI]{s:Shared}
universe e9
section
variable{X:Cx}{o i e value:Expr}{pos pos' tpos:Pos}{td ty tv:TE}
universe e9
universe L2
namespace L2
open PySem PySem.Spec PyProof.Rows
section
variable[?iI]{s:Shared}
universe e9
section
variable{X:Cx}[?I]
def dP(ns:?e):Nat:=(?oP).length
def zM(ns:?e):Int->Bool:=fun k=>(?oP).any (·==k)
theorem DP:∀{ns:?e}{us:?dN},Vals ?gA us->IntsAre us ns
 | [],_,r=>by cases r;exact .nil
 | n::ns,_,r=>by
   rw[qd5]at r;cases r with
   | cons h t =>
     obtain⟨tk,rfl⟩:=h;exact ?fD n tk (DP t)
theorem KU(hc:X.calm=true)(hK:X.K=K:=by rfl):E8 X (.type "set") (fun xs H Q=>∃l ns,xs=[?gX l]/\?xH l ?gA/\ns.length<=1000/\∀D,?aC->Q ?j7 (upd H D (?pF))):=by
 subst hK;intro Ac s σ H xs us Q I r h;obtain⟨l,ns,rfl,hq,hn,q⟩:=h;obtain⟨u,rfl,rx⟩:=P6 r;cases rx;obtain⟨its,r1,pl,hz⟩:=?tG
 have hlen:its.toArray.size=ns.length:=by
  have:=r1.length;simpa using this.symm
 refine PySem.call_set_list (ns:=ns) (I.ok.hd hc) pl.isList (by simpa using DP r1) (by rw[hlen];unfold scanBound;omega) fun h' tk hS hk=>?_;rw[hlen]at hS;ext vC;exact⟨?m ?cX,_,I.laid (a:=s.heap.objs.size) (o:=?pF) (h':=h') (t':=tk) (fun b o e=>hk b o (qb2 e) e) ?aR hS,rfl,q _ ?kQ⟩
theorem kX:E8 X (.builtin "len") (fun xs H Q=>∃a S n,xs=[?gX a]/\H a=?c (.set S n)/\n<=1000/\Q (?d (n:Nat)) H):=by
 intro Ac s σ H xs us Q I r h;obtain⟨a,S,n,rfl,ha,hn,q⟩:=h;obtain⟨u,rfl,rx⟩:=P6 r;cases rx;obtain⟨o,es,ep,t,ho,hex,hd,_,_,_,hf,hn2⟩:=(show s.heap.SetOf (intKind X.prog X.w) a S n from I.hok a _ ha)
 subst hn2;exact PySem.call_len_set ho hex hd hf O9m ⟨?d (es.size:Nat),H,(I.tok _).tok _,?b6,q⟩
universe e9
section
variable{X:Cx}[?vO][?iN]{a:Addr}{o:Obj}{kvs:?C (V × V)}{y v:V}{u r:Value}
universe e9
theorem boot_setT:?oQ "set"=?c (.type "set"):=?i
universe L2
namespace Hb
open PySem L2
def Ma[?iP]:?dY
 | 0=>0
 | n+1=>if ?fJ then ?eI else if φ n=v then n else n+1
theorem An9[?iP]:∀n,?eI<=n
 | 0=>?b3
 | n+1=>by
   unfold Ma;split
   . omega
   . ext bN
theorem BH[?iP]:∀n,?fJ->φ (?eI)=v
 | 0=>fun h=>O9m
 | n+1=>fun h=>by
   unfold Ma at h ⊢;by_cases h1:?fJ
   . rw[?l h1];exact BH φ v n h1
   . rw[?f h1]at h ⊢;by_cases h2:φ n=v
     . rw[?l h2];exact h2
     . rw[?f h2]at h;omega
theorem O0[?iP]:∀n j,j<n->φ j=v->?eI<=j
 | 0=>fun j h=>O9m
 | n+1=>fun j h e=>by
   unfold Ma;by_cases h1:?fJ
   . rw[?l h1];by_cases h2:j<n
     . exact ?tM
     . omega
   . rw[?f h1];by_cases h2:j<n
     . have:=?tM;omega
     . have:j=n:=O9m
       subst this;rw[?c7];exact ?b3
theorem v3(φ:?u)(m:Nat):∀i,i<=m->((?r9).length:Int)=Ai (fun K=>if Ma φ (φ K) m=K then 1 else 0) i
 | 0,_=>rfl
 | i+1,h=>by
   have ih:=v3 φ m i O9m;show _=?l4+(if ?uV=i then 1 else 0)
   rw[←ih,PyProof.Rows.firstMet_succ]
   have hm:(?r9).any (·==φ i)=true↔ ?qG:=by
    rw[PyProof.Rows.firstMet_any,List.any_map,qm8];constructor
    . rintro ⟨j,hj,hq⟩;exact⟨j,?k9,?oR⟩
    . rintro ⟨j,hj,hq⟩;exact⟨j,?gI hj,?oR⟩
   have hle:=O0 φ ?gG m i O9m rfl;by_cases z:?qG
   . obtain⟨j,hj,ej⟩:=z;have h2:=O0 φ ?gG m j O9m ej;rw[?bP];unfold PyProof.Rows.step_dedup;rw[?l (hm.mpr ⟨j,hj,ej⟩),qn4]
   . rw[if_pos]
     . unfold PyProof.Rows.step_dedup;rw[?f fun y=>z (hm.mp y),qc0];rfl
     . by_cases y:?uV<i
       . exact ?U ⟨_,y,BH φ ?gG m O9m⟩ z
       . omega
def Pk(lot x:?e):?e:=if ?cM then ?x4 v else lot
def Do(xs:Ar):?rL
 | 0=>?lQ
 | i+1=>Pk (Do xs i) (?fL)
def Qd(xs:Ar):?e:=?qV fun p=>?uU ?c2 0
theorem dN(lot x:?e):(?h7).length=lot.length:=by
 unfold Pk;split
 . rw[qa2]
 . rfl
theorem T4(xs:Ar):∀i,(Do xs i).length=xs.length
 | 0=>Mj _
 | i+1=>(dN _ _).trans (T4 xs i)
def Jn(xs:Ar)(a c:Int):Prop:=∃u:?u,∀x,x<?J->?nN=(if ?cZ x 0=a then 1 else 0)-(if ?cZ x 0=c then 1 else 0)
theorem Jn.refl(xs:Ar)(a:Int):Jn xs a a:=⟨?gD,fun x _=>by
 unfold Lat.mulV;rw[Lat.sumN_all0 fun c _=>qe2 _];omega⟩
theorem Jn.add{xs:Ar}{a b c d e f:Int}(h:?lT)(h':Jn xs c d)(s:∀y,(if y=a then ?eL else 0)-(if y=b then 1 else 0)+(?wO c d)=?wO e f):Jn xs e f:=by
 obtain⟨u,hu⟩:=h;obtain⟨v,hv⟩:=h';refine⟨fun j=>u j+v j,?nU⟩;rw[←s,←?gQ,←hv x hx];unfold Lat.mulV;rw[←Cd];exact ?xW Int.mul_add
theorem Jn.trans{xs:Ar}{a b c:Int}(h:?lT)(h':Jn xs b c):?sA:=h.add h' fun y=>O9m
theorem Jn.symm{xs:Ar}{a b:Int}(h:?lT):Jn xs b a:=by
 obtain⟨u,hu⟩:=h;refine⟨fun j=>-1*u j,?nU⟩;have:=?gQ;unfold Lat.mulV at this ⊢
 have e:Ai (fun j=>?pG*(-1*u j)) ?f7=-1*Ai (fun j=>?pG*u j) ?f7:=by
  rw[←Ay];exact Ag fun j _=>?fZ
 rw[e,this];omega
theorem dG{x:?e}(h:?cM)(q:Int):Ty x q=(if ?bU=q then 1 else 0)-(if ?aG=q then 1 else 0):=by
 unfold Ty;rw[h];show(if ?aG=q then ?x5 (?pO) 1 else ?pO)=_;ext iO
theorem Jn.side[?aY][?vG]:Jn xs (?bU) (?aG):=by
 ext v8
 have hm:?qK:=Wa O9m O9m (by
  ext vJ)
 obtain⟨c,hc,ec⟩:=qh5 hm;have e1:?wU ?g8 c=?bG:=by rw[qa4,qa0 hc,ec];rfl
 refine⟨?q4,fun y hy=>?_⟩
 have e0:?lG ?f7 ?pC (?q4) y=Jg xs 1 y c:=by
  unfold Lat.mulV;rw[?lF hc fun k _ ne=>by show _*(if k=c then 1 else 0)=?aI;rw[?kY,qe2]];show _*(if c=c then 1 else 0)=_;rw[?B,ql3]
 rw[e0];unfold Jg;rw[e1,?kZ,eg,dG h2,?j5];have:∀a b:Int,(if a=b then ?eL else 0)=?rU:=fun a b=>by ext iO
 rw[this,?dB (?aG)]
structure IS(xs:Ar)(i:Nat)(lot:?e):Prop where
 len:lot.length=xs.length
 side:∀(j:Nat) x,j<i->xs[j]?=?c x->?cM->?jF=?eS
 join:∀a c:Int,0<=a->a<?M->0<=c->c<?M->?oK=?mY->?sA
theorem AK[?aY][?vG]:(0<=?bU/\?bU<?M)/\(0<=?aG/\?aG<?M):=by
 ext v8
 have hm:?qK:=Wa O9m O9m (by
  ext vJ)
 have hf:=?oG;rw[?kZ,eg]at hf;have h0:=Et (?tL);have h1:=Et (?rW);exact⟨⟨h0.1,h0.2.1⟩,h1.1,h1.2.1⟩
theorem Pn{lot:?e}(F:?h6){j:Nat}(h:j<lot.length):(?fY F).getD j 0=F (?bY j 0):=by
 rw[qa4,qa4,qa9,qa0 h];rfl
theorem IS.step[?aY]{i:Nat}{lot x:?e}(h:IS xs i lot)(hx:?gY):IS xs ?bA (?h7):=by
 by_cases h2:?cM
 . obtain⟨⟨p0,p1⟩,q0,q1⟩:=AK hs hx h2;have hl:=h.len;have e:?h7=?x4 v:=?l h2
   rw[e];refine⟨by rw[qa2];exact hl,?rO,fun a c a0 a1 c0 c1 eq=>?_⟩
   . obtain⟨⟨r0,r1⟩,s0,s1⟩:=AK hs hy y2;rw[?gN,?gN];by_cases hj2:j<i
     . rw[?p2]
     . have:j=i:=O9m
       subst this;rw[hx]at hy;cases hy;rw[?B];split
       . rfl
       . rfl
   . rw[?gN,?gN]at eq;have sd:=Jn.side hs hx h2;by_cases z1:?oK=?eS
     . have j1:=?bR a (?aG) a0 a1 q0 q1 z1;ext vA
       . exact ?bR a c a0 a1 c0 c1 (z1.trans ?g7)
       . rw[?aV,?bC]at eq;exact(j1.trans sd.symm).trans (?bR _ c p0 p1 c0 c1 eq)
     . ext vA
       . rw[?a8,?c8]at eq;exact(?bR a _ a0 a1 p0 p1 eq).trans (sd.trans (?bR _ c q0 q1 c0 c1 ?g7))
       . rw[?a8,?bC]at eq;exact ?bR a c a0 a1 c0 c1 eq
 . have e:?h7=lot:=?f h2;rw[e];refine⟨h.len,?rO,?bR⟩;by_cases hj2:j<i
   . exact ?p2
   . have:j=i:=O9m
     subst this;rw[hx]at hy;cases hy;exact ?U y2 h2
theorem DM[?aY]:∀i,?kU->IS xs i (Do xs i)
 | 0,_=>⟨Mj _,fun j x hj=>O9m,fun a c a0 a1 c0 c1 e=>by
    have g:∀a:Int,0<=a->a<?M->?t7=a:=fun a h0 h1=>by
     rw[qa4,GW ?t];show((a.toNat:Nat):Int)=a;omega
    have e:?t7=?qD ?fP 0:=e;rw[g a a0 a1,g c c0 c1]at e;rw[e];exact Jn.refl xs c⟩
 | i+1,h=>by
   have hx:?jS=?c (?fL):=?uK
   exact(DM hs i O9m).step hs hx
theorem jT{xs:Ar}[?aE](hs:?dR)(h:?l9){ps:?a0}(hp:?x2 0):?nI=V0 ps/\zD ps=[]:=by
 obtain⟨_,_,_,zs,ks,Ls,Gs,fs,lp,rp,t,_⟩:=h;obtain⟨b,e⟩:=t.lv 0 O9m;rw[e]at hp;cases hp;have ok:=DM hs ?aB ?aR;have z0:=t.z0;have kz:=b.kz;have F2:∀c d,c<?J->d<?J->_:=fun c d hc hd=>jC t (k:=0) O9m (c:=c) (d:=d) hc hd;have F1:=fun i j ?q9 (hj:j<zs 0)=>b.lev.gauge b.fin.dg.dl hi hj;have F3:=fun i ?q9 c (hc:c<Co xs ((0:Nat)+1:Int))=>Lat.gauge_edge ?s2 b.fin.ir hi hc;have F4:=fun i ?p7 a (ha:a<Co xs ?nY)=>b.lev.filling (mY hs _) ?s2 b.fin.il hi a ha
 let φ:?u:=fun i=>(Qd xs).getD i 0
 have vl:(Qd xs).length=?J:=by unfold Qd;rw[qa2]
 have φa:∀a,?c3->φ a=?uU (?fI).toNat 0:=fun a ha=>by
  show(?qV _).getD a 0=_;rw[qa4,qa4 (l:=?h9),qa9,qa0 ha];rfl
 let r:?dY:=fun a=>?n8
 have hr:∀a,?c3->r a<?J:=fun a ha=>by
  have:=O0 φ ?g5 ?aO a ha rfl;show ?n8<_;omega
 have re:∀a,?c3->φ ?cN=φ a:=fun a ha=>BH φ ?g5 _ ?d3
 have rr:∀a,?c3->?sV:=fun a ha=>by
  show Ma φ (φ ?cN) _=Ma φ ?g5 _;rw[re a ha]
 have inn:∀a,?c3->0<=?fI/\?fI<?M:=fun a ha=>by
  have:=Et (Jt (l:=?h9) ha);exact⟨this.1,?pT⟩
 have inj:∀a c,?c3->c<?J->(?fI=?cZ c 0↔a=c):=fun a c ha hc=>by
  constructor
  . intro y;rw[qa4,qa4,qa0 ha,qa0 hc]at y;exact VY (Jr xs 0) ha hc y
  . rintro rfl;rfl
 have h2:∀a,?c3->∃u:?u,∀x,x<?J->?nN=?l0:=fun a ha=>by
  have e1:=re a ha;rw[φa a ha,φa ?cN ?d3]at e1;obtain⟨u,hu⟩:=ok.join _ _ (?sW).1 (?sW).2 (?rX).1 (?rX).2 e1.symm;refine⟨u,fun x hx=>(?gQ).trans ?_⟩;have i1:=inj x a hx ha;have i2:=inj x ?cN hx ?d3
  congr 1
  . by_cases y:x=a
    . rw[?l y,?l (i1.mpr y)]
    . rw[?f y,?f fun q=>y (i1.mp q)]
  . by_cases y:?hX
    . rw[?l y,?l (i2.mpr y)]
    . rw[?f y,?f fun q=>y (i2.mp q)]
 have h1:∀K,K<?J->∀c,c<?xU 1->?qO=0:=fun K hK c hc=>by
  have hm:=Jt (l:=?g8) hc;have h3:=Et hm;generalize hi:?wU ?g8 c=i at hm h3;obtain⟨x,hx⟩:∃x,xs[i.toNat]?=?c x:=?qN
  have eg:?o ?kT []=x:=?mF
  have x2:?cM:=by
   have hcn:=(hs ?kT x hx).cnt;have:=h3.2.2;rw[eg]at this;unfold Dh at this;split at this<;>omega
  have hf:=?oG;rw[eg]at hf;have f0:=?tL;have f1:=?rW;rw[?j5]at f0 f1;have sd:=ok.side ?kT x O9m hx x2;obtain⟨a0,ha0,ea0⟩:=qh5 f0;obtain⟨a1,ha1,ea1⟩:=qh5 f1;have g0:?cZ a0 0=?bU:=by rw[qa4,qa0 ha0,ea0];rfl
  have g1:?cZ a1 0=?aG:=by rw[qa4,qa0 ha1,ea1];rfl
  have req:r a0=r a1:=by
   show Ma φ (φ a0) _=Ma φ (φ a1) _;rw[φa a0 ha0,φa a1 ha1,g0,g1,sd]
  have e1:?qO=Ai (fun a=>(if a=a0 then(if r a0=K then 1 else 0) else 0)+-1*(if a=a1 then(if r a1=K then 1 else 0) else 0)) ?aO:=Ag fun a ha=>by
   have i0:=inj a0 a ha0 ha;have i1:=inj a1 a ha1 ha;unfold Jg;rw[hi,eg,dG x2,←g0,←g1,?j5];have j0:(a=a0)↔(a0=a):=?sY
   have j1:(a=a1)↔(a1=a):=?sY
   simp only[i0,i1,j0,j1];by_cases y0:a0=a<;>by_cases y1:a1=a
   . rw[?f3,?fO,?f3,?fO,←req,y0];split<;>rfl
   . rw[?f3,?hO,?f3,?hO,y0];split<;>rfl
   . rw[?fT,?fO,?fT,?fO,y1];split<;>rfl
   . rw[?fT,?hO,?fT,?hO];split<;>rfl
  rw[e1,Cd,Ay,?lF ha0 ?gF,?lF ha1 ?gF,?B,?B,req];omega
 have ez:?rV:=z0.1;rw[ez]at kz F1 F3 F4;have pos:=b.fin.dg.pos;have one:=fun i ?p7=>Lat.lots_one (r:=r) kz pos F1 F3 F4 h1 h2 hi
 have many:=Lat.lots_many (r:=r) kz pos F1 (fun c d hc hd=>by
  have:=F2 c d hc hd;rw[ez]at this;exact(qn4 _).symm.trans ?dB) F3 F4 hr rr h1 h2
 constructor
 . rw[b.count,ez];have:=v3 φ ?aO ?aO ?aR;unfold dP;rw[vl];have e3:(?nD:Int)=(?J:Int)-ks 0:=this.trans many;show ?nD=_;omega
 . rw[b.twist];refine ?j6 ?mG;obtain⟨i,hi,rfl⟩:=?S hn;rw[one i (?e7)];decide
section
variable[?v]
def HB:Sp:=?wI (∀H',?E->Q (?d ((?nI:Nat):Int)) H')
def j6(C:Addr):Sp:=fun vs H Q _=>Qm fun ?jD ?l5 ?A ?gM=>B6 (vs=[?bO]) (?hR) (?y B H) (∀[?mB],?aC->Reps K B us (xs.map tI)->Q ?j7 (?xE us))
universe e9
theorem S8{lot:?e}{p:Int}(h0:0<=p)(h:p<(lot.length:Int)):e9 ?mO p=?wX (?bY ?c2 0):=by
 have h1:?mO[p.toNat]?=?wX (?bY ?c2 0):=by
  rw[qa9,qa4,?hM];rfl
 have:=Bl h1
 rwa [show((p.toNat:Nat):Int)=p by omega]at this
theorem oH[?cB](h:0<l.length):?yE 0 0:=S8 (p:=0) ?aW O9m
theorem OG[?cB](h:1<l.length):?yE 1 1:=S8 (p:=1) ?aW O9m
theorem Ig{S:St}{p0:?F}[?p](k:∀H,p0 H->?oV):?vS (σ=S/\p0 H):=by
 rintro _ H ⟨rfl,h0⟩;exact k H h0
theorem cC{S:St}{p0 p1:?F}[?p](k:∀H,p0 H->p1 H->?oV):?vS (Ef (σ=S) (p0 H) (p1 H)):=by
 rintro _ H ⟨rfl,h0,h1⟩;exact k H h0 h1
theorem Uv[?aX]{p0 p1:?d5}[?p](k:∀x0 H,?eW->?dZ->?eT):?vS (E4 fun x0=>Ef ?cV ?d7 ?eA):=by
 rintro _ H ⟨x0,rfl,h0,h1⟩;exact k x0 H h0 h1
theorem Wh[?aX]{p0 p1 p2:?d5}[?p](k:∀x0 H,?eW->?dZ->?fR->?eT):?vS (E4 fun x0=>B6 ?cV ?d7 ?eA ?gU):=by
 rintro _ H ⟨x0,rfl,h0,h1,h2⟩;exact k x0 H h0 h1 h2
theorem ZA[?aX]{p0 p1 p2 p3:?d5}[?p](k:∀x0 H,?eW->?dZ->?fR->?j4->?eT):?vS (E4 fun x0=>Ed ?cV ?d7 ?eA ?gU (p3 x0 H)):=by
 rintro _ H ⟨x0,rfl,h0,h1,h2,h3⟩;exact k x0 H h0 h1 h2 h3
theorem zA[?aX]{p0 p1 p2 p3 p4:?d5}[?p](k:∀x0 H,?eW->?dZ->?fR->?j4->?nG->?eT):?vS (E4 fun x0=>Kh ?cV ?d7 ?eA ?gU (p3 x0 H) ?qC):=by
 rintro _ H ⟨x0,rfl,h0,h1,h2,h3,h4⟩;exact k x0 H h0 h1 h2 h3 h4
theorem GS[?aX]{p0 p1 p2 p3 p4 p5:?d5}[?p](k:∀x0 H,?eW->?dZ->?fR->?j4->?nG->p5  x0 H->?eT):?vS (E4 fun x0=>Nm ?cV ?d7 ?eA ?gU (p3 x0 H) ?qC (p5 x0 H)):=by
 rintro _ H ⟨x0,rfl,h0,h1,h2,h3,h4,h5⟩;exact k x0 H h0 h1 h2 h3 h4 h5
theorem sO[?aD]{p0:?h4}[?p](k:∀x0 x1 H,?hQ->?hG):?vS (Jp fun x0 x1=>?e4/\?iA):=by
 rintro _ H ⟨x0,x1,rfl,h0⟩;exact k x0 x1 H h0
theorem SN[?aD]{p0 p1:?h4}[?p](k:∀x0 x1 H,?hQ->?jZ->?hG):?vS (Jp fun x0 x1=>Ef ?cP (?iA) (?y5 p1)):=by
 rintro _ H ⟨x0,x1,rfl,h0,h1⟩;exact k x0 x1 H h0 h1
theorem lO[?aD]{p0 p1 p2 p3:?h4}[?p](k:∀x0 x1 H,?hQ->?jZ->?uW->?rI->?hG):?vS (Jp fun x0 x1=>Ed ?cP (?iA) (?y5 p1) (?y5 p2) (?y5 p3)):=by
 rintro _ H ⟨x0,x1,rfl,h0,h1,h2,h3⟩;exact k x0 x1 H h0 h1 h2 h3
theorem YZ[?aD]{p0 p1 p2 p3 p4 p5 p6:?h4}[?p](k:∀x0 x1 H,?hQ->?jZ->?uW->?rI->?x6 p4->?x6 p5->?x6 p6->?hG):?vS (Jp fun x0 x1=>BZ ?cP (?iA) (?y5 p1) (?y5 p2) (?y5 p3) (?y5 p4) (?y5 p5) (?y5 p6)):=by
 rintro _ H ⟨x0,x1,rfl,h0,h1,h2,h3,h4,h5,h6⟩;exact k x0 x1 H h0 h1 h2 h3 h4 h5 h6
theorem yZ[?bK]{p0 p1:?hY}[?p](k:∀x0 x1 x2 H,?hU->?hS->?hZ):?vS (Rs fun x0 x1 x2=>Ef ?c6 ?fQ ?g9):=by
 rintro _ H ⟨x0,x1,x2,rfl,h0,h1⟩;exact k x0 x1 x2 H h0 h1
theorem YY[?bK]{p0 p1 p2:?hY}[?p](k:∀x0 x1 x2 H,?hU->?hS->?k3->?hZ):?vS (Rs fun x0 x1 x2=>B6 ?c6 ?fQ ?g9 (?y1 p2)):=by
 rintro _ H ⟨x0,x1,x2,rfl,h0,h1,h2⟩;exact k x0 x1 x2 H h0 h1 h2
theorem LN[?bK]{p0 p1 p2 p3 p4:?hY}[?p](k:∀x0 x1 x2 H,?hU->?hS->?k3->?uL->?oN->?hZ):?vS (Rs fun x0 x1 x2=>Kh ?c6 ?fQ ?g9 (?y1 p2) (?y1 p3) (?y1 p4)):=by
 rintro _ H ⟨x0,x1,x2,rfl,h0,h1,h2,h3,h4⟩;exact k x0 x1 x2 H h0 h1 h2 h3 h4
theorem yY[?bK]{p0 p1 p2 p3 p4 p5:?hY}[?p](k:∀x0 x1 x2 H,?hU->?hS->?k3->?uL->?oN->?wK p5->?hZ):?vS (Rs fun x0 x1 x2=>Nm ?c6 ?fQ ?g9 (?y1 p2) (?y1 p3) (?y1 p4) (?y1 p5)):=by
 rintro _ H ⟨x0,x1,x2,rfl,h0,h1,h2,h3,h4,h5⟩;exact k x0 x1 x2 H h0 h1 h2 h3 h4 h5
theorem YX[?c9]{p0:?f4}[?p](k:∀x0 x1 x2 x3 H,?h2->?hJ):?vS (Qm fun x0 x1 x2 x3=>?lJ/\?gK):=by
 rintro _ H ⟨x0,x1,x2,x3,rfl,h0⟩;exact k x0 x1 x2 x3 H h0
theorem yX[?c9]{p0 p1:?f4}[?p](k:∀x0 x1 x2 x3 H,?h2->?kA->?hJ):?vS (?yJ ?gK (?xZ p1)):=by
 rintro _ H ⟨x0,x1,x2,x3,rfl,h0,h1⟩;exact k x0 x1 x2 x3 H h0 h1
theorem YW[?c9]{p0 p1 p2:?f4}[?p](k:∀x0 x1 x2 x3 H,?h2->?kA->?tO->?hJ):?vS (Qm fun x0 x1 x2 x3=>B6 ?eC (?gK) (?xZ p1) (?xZ p2)):=by
 rintro _ H ⟨x0,x1,x2,x3,rfl,h0,h1,h2⟩;exact k x0 x1 x2 x3 H h0 h1 h2
theorem yW[?c9]{p0 p1 p2 p3 p4:?f4}[?p](k:∀x0 x1 x2 x3 H,?h2->?kA->?tO->?wH p3->?wH p4->?hJ):?vS (Qm fun x0 x1 x2 x3=>Kh ?eC (?gK) (?xZ p1) (?xZ p2) (?xZ p3) (?xZ p4)):=by
 rintro _ H ⟨x0,x1,x2,x3,rfl,h0,h1,h2,h3,h4⟩;exact k x0 x1 x2 x3 H h0 h1 h2 h3 h4
theorem YV[?m2]{p0 p1 p2:A0->A1->A2->A3->A4->?F}[?p](k:∀x0 x1 x2 x3 x4 H,?xD p0->?xD p1->?xD p2->let s:=(?dQ);?a3):?vS (bZ fun x0 x1 x2 x3 x4=>B6 (σ=?dQ) (?y8 p0 H) (?y8 p1 H) (?y8 p2 H)):=by
 rintro _ H ⟨x0,x1,x2,x3,x4,rfl,h0,h1,h2⟩;exact k x0 x1 x2 x3 x4 H h0 h1 h2
theorem yV{A0 A1 A2 A3 A4 A5:Type}{S:A0->A1->A2->A3->A4->A5->St}{p0 p1 p2 p3:A0->A1->A2->A3->A4->A5->?F}[?p](k:∀x0 x1 x2 x3 x4 x5 H,?wB p0->?wB p1->?wB p2->?wB p3->let s:=(?sI);?a3):?vS (xV fun x0 x1 x2 x3 x4 x5=>Ed (σ=?sI) (?y3 p0) (?y3 p1) (?y3 p2) (?y3 p3)):=by
 rintro _ H ⟨x0,x1,x2,x3,x4,x5,rfl,h0,h1,h2,h3⟩;exact ?xC H
theorem YU[?lY]{p0 p1 p2:?w5 ?F}[?p](k:∀x0 x1 x2 x3 x4 x5 x6 x7 H,?oT->?sP->?tS->?rJ):∀σ H,(UK fun x0 x1 x2 x3 x4 x5 x6 x7=>B6 (σ=?e3) (?vR p0) (?vR p1) (?vR p2))->?n:=by
 rintro _ H ⟨x0,x1,x2,x3,x4,x5,x6,x7,rfl,h0,h1,h2⟩;exact k x0 x1 x2 x3 x4 x5 x6 x7 H h0 h1 h2
theorem SM[?lY]{p0 p1 p2 p3 p4 p5 p6 p7:?w5 ?F}[?p](k:∀x0 x1 x2 x3 x4 x5 x6 x7 H,?oT->?sP->?tS->?vU p3->?vU p4->?vU p5->?vU p6->?vU p7->?rJ):∀σ H,(UK fun x0 x1 x2 x3 x4 x5 x6 x7=>GR (σ=?e3) (?vR p0) (?vR p1) (?vR p2) (?vR p3) (?vR p4) (?vR p5) (?vR p6) (?vR p7))->?n:=by
 rintro _ H ⟨x0,x1,x2,x3,x4,x5,x6,x7,rfl,h0,h1,h2,h3,h4,h5,h6,h7⟩;exact k x0 x1 x2 x3 x4 x5 x6 x7 H h0 h1 h2 h3 h4 h5 h6 h7
theorem yU{A0 A1 A2 A3 A4 A5 A6 A7 A8:Type}{S:?wW St}{p0 p1 p2:?wW ?F}[?p](k:∀x0 x1 x2 x3 x4 x5 x6 x7 x8 H,?wA p0->?wA p1->?wA p2->let s:=(?uC);?a3):?vS (Ex9 fun x0 x1 x2 x3 x4 x5 x6 x7 x8=>B6 (σ=?uC) (?y0 p0 H) (?y0 p1 H) (?y0 p2 H)):=by
 rintro _ H ⟨x0,x1,x2,x3,x4,x5,x6,x7,x8,rfl,h0,h1,h2⟩;exact k x0 x1 x2 x3 x4 x5 x6 x7 x8 H h0 h1 h2
theorem UP{A0 A1 A2 A3 A4 A5 A6 A7 A8 A9:Type}{S:?wN St}{p0 p1 p2 p3:?wN ?F}[?p](k:∀x0 x1 x2 x3 x4 x5 x6 x7 x8 x9 H,?w0 p0->?w0 p1->?w0 p2->?w0 p3->let s:=(?q5);?a3):∀σ H,(LG fun x0 x1 x2 x3 x4 x5 x6 x7 x8 x9=>Ed (σ=?q5) (?vQ p0 H) (?vQ p1 H) (?vQ p2 H) (?vQ p3 H))->?n:=by
 rintro _ H ⟨x0,x1,x2,x3,x4,x5,x6,x7,x8,x9,rfl,h0,h1,h2,h3⟩;exact k x0 x1 x2 x3 x4 x5 x6 x7 x8 x9 H h0 h1 h2 h3
theorem Nn{S:St}[?p]{H0:Hp}(k:let s:=S;G s H0):?vS (σ=S/\H0=H):=by
 rintro _ _ ⟨rfl,rfl⟩;exact k
theorem SO[?aX]{p0:?d5}[?p]{H0:Hp}(k:∀x0,p0  x0 H0->let s:=(S x0);G s H0):?vS (E4 fun x0=>Ef ?cV (H0=H) ?d7):=by
 rintro _ _ ⟨x0,rfl,rfl,h0⟩;exact k x0 h0
theorem ex2{A0 A1:Type}{p:?e1}{G:Prop}(k:∀x0 x1,p x0 x1->G)(h:∃x0 x1,p x0 x1):G:=h.elim fun x0 h=>h.elim fun x1 h=>k x0 x1 h
theorem A31{p0 p1 p2 G:Prop}(k:p0->p1->p2->G)(h:p0/\p1/\p2):G:=k h.1 h.2.1 h.2.2
section
variable{g:TG}{x:V}{t1 t2 t3 t4 t5 t6 t7 t8 t9 lH SR xY t13 t14:TS}{D:Ends}{σ:St}{H:Hp}
theorem QW{tc:St->?yC Hp (?nE)}{k:?nE}(h:let k':=k;tc σ H k'):tc σ H k:=h
theorem letG1(h:let D':=D;?xF D'):?xF D:=h
theorem let2(h:let D':=D;let u2:TS:=t2;?qR):Ao t1 t2 D σ H:=h
theorem letG2(h:let D':=D;let u2:TS:=t2;?sR):?vV t2:=h
theorem let3(h:let D':=D;let u3:TS:=t3;?oF):Ao t1 (Ao t2 t3) D σ H:=h
theorem letG3(h:let D':=D;let u3:TS:=t3;?rM):?vV (Ao t2 t3):=h
theorem let4(h:let D':=D;let u4:TS:=t4;?o4):Ao t1 (?yH t4) D σ H:=h
theorem letG4(h:let D':=D;let u4:TS:=t4;?nR):?vV (?yH t4):=h
theorem let5(h:let D':=D;let u5:TS:=t5;?o0):?vT t5:=h
theorem let6(h:let D':=D;let u6:TS:=t6;?uN):?vT (Ao t5 t6):=h
theorem letG6(h:let D':=D;let u6:TS:=t6;?t4):?vV (?yH (Ao t4 (Ao t5 t6))):=h
theorem let7(h:let D':=D;let u7:TS:=t7;?uF):?vT (Ao t5 (Ao t6 t7)):=h
theorem let8(h:let D':=D;let u8:TS:=t8;?s4):?vT (?xY t8):=h
theorem letG8(h:let D':=D;let u8:TS:=t8;let u7:TS:=?tU;let u6:TS:=?pS;?t4):?vV (?yH (Ao t4 (?xY t8))):=h
theorem let9(h:let D':=D;let u9:TS:=t9;?o7):?vT (?xY (Ao t8 t9)):=h
theorem let10(h:let D':=D;let lP:TS:=lH;?sG):?vT (?xY (Ao t8 (Ao t9 lH))):=h
theorem let12(h:let D':=D;let zC:TS:=xY;let US:TS:=Ao SR zC;let lP:TS:=Ao lH US;?sG):?vT (?xY (Ao t8 (Ao t9 (Ao lH (Ao SR xY))))):=h
universe e9
universe Hb
local macro_rules|`(tactic|infer_instance)=>`(tactic|first|(refine Hb.let12 ?_;intro _ _ _ _ _ _ _ _ _ _ _ _)|(refine Hb.let10 ?_;intro _ _ _ _ _ _ _ _ _ _)|(refine Hb.let9 ?_;intro _ _ _ _ _ _ _ _ _)|(refine Hb.let8 ?_;intro _ _ _ _ _ _ _ _)|(refine Hb.let7 ?_;intro _ _ _ _ _ _ _)|(refine Hb.let6 ?_;intro _ _ _ _ _ _)|(refine Hb.let5 ?_;intro _ _ _ _ _)|(refine Hb.let4 ?_;intro _ _ _ _)|(refine Hb.let3 ?_;intro _ _ _)|(refine Hb.let2 ?_;intro _ _))
local macro_rules|`(tactic|and_intros)=>`(tactic|first|(refine Hb.letG8 ?_;intro _ _ _ _ _ _ _ _)|(refine Hb.letG6 ?_;intro _ _ _ _ _ _)|(refine Hb.letG4 ?_;intro _ _ _ _)|(refine Hb.letG3 ?_;intro _ _ _)|(refine Hb.letG2 ?_;intro _ _)|(refine Hb.letG1 ?_;intro _))
namespace Hb
open PySem L2
theorem NC[?aX]{p0:?xI A0}[?x](k:∀x0,p0 x0->?tH):?vX (E4 fun x0=>?i0/\p0 x0):=by
 rintro _ ⟨x0,rfl,h0⟩;exact k x0 h0
theorem Ij[?aX]{p0 p1 p2:Prop}[?x](k:p0->p1->p2->?nP):?vX (B6 (p0) (p1) (p2) (E4 fun x0=>?i0)):=by
 rintro _ ⟨h0,h1,h2,x0,rfl⟩;exact k h0 h1 h2 x0
theorem nA[?aX]{p0 p1 p2 p3:Prop}[?x](k:p0->p1->p2->p3->?nP):?vX (Ed (p0) (p1) (p2) (p3) (E4 fun x0=>?i0)):=by
 rintro _ ⟨h0,h1,h2,h3,x0,rfl⟩;exact k h0 h1 h2 h3 x0
theorem tT[?aD]{p0:?e1}[?x](k:∀x0 x1,?b1->?eE):?vX (Jp fun x0 x1=>?e4/\?b1):=by
 rintro _ ⟨x0,x1,rfl,h0⟩;exact k x0 x1 h0
theorem tS[?aD]{p0 p1:?e1}[?x](k:∀x0 x1,?b1->?cW->?eE):?vX (Jp fun x0 x1=>Ef ?cP (?b1) (?cW)):=by
 rintro _ ⟨x0,x1,rfl,h0,h1⟩;exact k x0 x1 h0 h1
theorem U8[?aD]{p0 p1 p2:?e1}[?x](k:∀x0 x1,?b1->?cW->?i4->?eE):?vX (Jp fun x0 x1=>B6 ?cP (?b1) (?cW) (?i4)):=by
 rintro _ ⟨x0,x1,rfl,h0,h1,h2⟩;exact k x0 x1 h0 h1 h2
theorem tM[?aD]{p0 p1 p2:Prop}[?x](k:p0->p1->p2->?n1):?vX (B6 (p0) (p1) (p2) (Jp fun x0 x1=>?e4)):=by
 rintro _ ⟨h0,h1,h2,x0,x1,rfl⟩;exact k h0 h1 h2 x0 x1
theorem TR[?aD]{p0 p1 p2 p3:?e1}[?x](k:∀x0 x1,?b1->?cW->?i4->?sB->?eE):?vX (Jp fun x0 x1=>Ed ?cP (?b1) (?cW) (?i4) (?sB)):=by
 rintro _ ⟨x0,x1,rfl,h0,h1,h2,h3⟩;exact k x0 x1 h0 h1 h2 h3
theorem TL[?aD]{p0 p1 p2 p3:Prop}[?x](k:p0->p1->p2->p3->?n1):?vX (Ed (p0) (p1) (p2) (p3) (Jp fun x0 x1=>?e4)):=by
 rintro _ ⟨h0,h1,h2,h3,x0,x1,rfl⟩;exact k h0 h1 h2 h3 x0 x1
theorem tR[?bK]{p0:?g6}[?x](k:∀x0 x1 x2,?b9->?fC):?vX (Rs fun x0 x1 x2=>σ=?iD/\?b9):=by
 rintro _ ⟨x0,x1,x2,rfl,h0⟩;exact k x0 x1 x2 h0
theorem TQ[?bK]{p0 p1:?g6}[?x](k:∀x0 x1 x2,?b9->?dC->?fC):?vX (Rs fun x0 x1 x2=>Ef ?c6 (?b9) (?dC)):=by
 rintro _ ⟨x0,x1,x2,rfl,h0,h1⟩;exact k x0 x1 x2 h0 h1
theorem HZ[?bK]{p0 p1 p2:?g6}[?x](k:∀x0 x1 x2,?b9->?dC->?g2->?fC):?vX (Rs fun x0 x1 x2=>B6 ?c6 (?b9) (?dC) (?g2)):=by
 rintro _ ⟨x0,x1,x2,rfl,h0,h1,h2⟩;exact k x0 x1 x2 h0 h1 h2
theorem tQ[?bK]{p0 p1 p2 p3 p4:?g6}[?x](k:∀x0 x1 x2,?b9->?dC->?g2->?oI->?p9->?fC):?vX (Rs fun x0 x1 x2=>Kh ?c6 (?b9) (?dC) (?g2) (?oI) (?p9)):=by
 rintro _ ⟨x0,x1,x2,rfl,h0,h1,h2,h3,h4⟩;exact k x0 x1 x2 h0 h1 h2 h3 h4
theorem Ab5[?c9]{p0:?lR}[?x](k:∀x0 x1 x2 x3,?cF->?l3):?vX (Qm fun x0 x1 x2 x3=>?lJ/\?cF):=by
 rintro _ ⟨x0,x1,x2,x3,rfl,h0⟩;exact k x0 x1 x2 x3 h0
theorem tP[?c9]{p0 p1:?lR}[?x](k:∀x0 x1 x2 x3,?cF->?hB->?l3):?vX (?yJ ?cF (?hB)):=by
 rintro _ ⟨x0,x1,x2,x3,rfl,h0,h1⟩;exact k x0 x1 x2 x3 h0 h1
theorem U7[?c9]{p0 p1 p2:?lR}[?x](k:∀x0 x1 x2 x3,?cF->?hB->?nQ->?l3):?vX (Qm fun x0 x1 x2 x3=>B6 ?eC (?cF) (?hB) (?nQ)):=by
 rintro _ ⟨x0,x1,x2,x3,rfl,h0,h1,h2⟩;exact k x0 x1 x2 x3 h0 h1 h2
theorem tO[?m2]{p0 p1 p2:A0->A1->A2->?yC A3 A4}[?x](k:∀x0 x1 x2 x3 x4,?hV->?g0->?fW->?r7):?vX (bZ fun x0 x1 x2 x3 x4=>B6 (σ=?dQ) (?hV) (?g0) (?fW)):=by
 rintro _ ⟨x0,x1,x2,x3,x4,rfl,h0,h1,h2⟩;exact k x0 x1 x2 x3 x4 h0 h1 h2
theorem TN[?m2]{p0 p1 p2 p3 p4 p5:A0->A1->A2->?yC A3 A4}[?x](k:∀x0 x1 x2 x3 x4,?hV->?g0->?fW->?rC->?n6->?qT->?r7):?vX (bZ fun x0 x1 x2 x3 x4=>Nm (σ=?dQ) (?hV) (?g0) (?fW) (?rC) (?n6) (?qT)):=by
 rintro _ ⟨x0,x1,x2,x3,x4,rfl,h0,h1,h2,h3,h4,h5⟩;exact k x0 x1 x2 x3 x4 h0 h1 h2 h3 h4 h5
theorem tN{A0 A1 A2 A3 A4 A5 A6:Type}{S:A0->A1->A2->A3->A4->A5->A6->St}{p0 p1 p2 p3:A0->A1->A2->A3->A4->?yC A5 A6}[?x](k:∀x0 x1 x2 x3 x4 x5 x6,?pD->?sC->?r1->?pV->let s:=?mW;G s):?vX (XU fun x0 x1 x2 x3 x4 x5 x6=>Ed (σ=?mW) (?pD) (?sC) (?r1) (?pV)):=by
 rintro _ ⟨x0,x1,x2,x3,x4,x5,x6,rfl,h0,h1,h2,h3⟩;exact ?xC x6
theorem TM[?lY]{p0 p1 p2 p3:A0->A1->A2->A3->A4->A5->?yC A6 A7}[?x](k:∀x0 x1 x2 x3 x4 x5 x6 x7,?sJ->?n2->?mR->?q6->let s:=?e3;G s):?vX (UK fun x0 x1 x2 x3 x4 x5 x6 x7=>Ed (σ=?e3) (?sJ) (?n2) (?mR) (?q6)):=by
 rintro _ ⟨x0,x1,x2,x3,x4,x5,x6,x7,rfl,h0,h1,h2,h3⟩;exact k x0 x1 x2 x3 x4 x5 x6 x7 h0 h1 h2 h3
theorem ND{A0 A1 A2 A3 A4 A5 A6 A7 A8 A9 IY:Type}{S:A0->A1->A2->A3->A4->A5->A6->A7->A8->A9->IY->St}{p0 p1 p2 p3 p4 p5 p6 p7 p8:A0->A1->A2->A3->A4->A5->A6->A7->A8->?yC A9 IY}[?x](k:∀x0 x1 x2 x3 x4 x5 x6 x7 x8 x9 Qp,?rH->?sE->?tB->?mX->?oY->?u0->?nO->?t8->?pL->let s:=?mV;G s):∀σ,(gQ fun x0 x1 x2 x3 x4 x5 x6 x7 x8 x9 Qp=>iY (σ=?mV) (?rH) (?sE) (?tB) (?mX) (?oY) (?u0) (?nO) (?t8) (?pL))->?w:=by
 rintro _ ⟨x0,x1,x2,x3,x4,x5,x6,x7,x8,x9,Qp,rfl,h0,h1,h2,h3,h4,h5,h6,h7,h8⟩;exact k x0 x1 x2 x3 x4 x5 x6 x7 x8 x9 Qp h0 h1 h2 h3 h4 h5 h6 h7 h8
universe Hb
namespace L2
open PySem PySem.Spec PyProof.Rows
section
variable[?m1]{base:Heap}{ds:?dN}
universe e9
universe L2
namespace L2
open PySem PySem.Spec PyProof.Rows PySem.W
section
variable[?vM]{sp:Sp}{m:Str}{pos apos:Pos}[?vN]
universe e9
section
variable{P:Program}{w:World}{K:Frag}{mg:?lS}{base:Heap}{ds:?dN}
universe e9
section
variable[?vM]{dvs:?g}{sp:Sp}{m x:Str}{p pos apos:Pos}[?vN]
universe e9
universe L2
namespace L2
open PySem PySem.Spec PyProof.Rows
def Di[?v](n:Str)(st:Stmt):Prop:=∃(f:Addr) (fd:FuncData),W.nsIn K ?tV n=?c (?c (?m f))/\?qY
def Px[?v](C:Addr)(n q:Str)(st:Stmt):Prop:=∃(f:Addr) (fd:FuncData),W.findIn K ?k8 n=?c (?c (?m f))/\W.isFn K (?m f)=true/\?u1
def BA(x q:Str)(st:Stmt)(ps:?h):Prop:=∀(kV doc pm:Value) (an:OAddr) (Ds ct:Value) (us:?dN),us.length=ps.length->bindArgs (W.fnOf x q (Ic st) (Ga st) (Au st) ?hW kV doc pm an Ds ct) ⟨us,[]⟩=pure (ps.zip us)
section
variable[?m1]{base h:Heap}
theorem Bs(X:K.In h)(G:h.Ns ?tV mg){n:Str}[?m5](d:Di K n st)(ok:∀{f fd},?qY->?lN)(hb:BA n n st ps):Has P w K mg ?a5 n ps k sp:=by
 obtain⟨f,fd,a,F⟩:=d;exact⟨_,_,qu0 X G a,F.kp,?jU,ok F⟩
theorem G0{C:Addr}{n q:Str}[?m5](d:Px K C n q st)(ok:∀{f fd},?u1->?lN)(hb:BA n q st ps):Jd P w K mg ?a5 C n ps k sp:=by
 obtain⟨f,fd,a,b,F⟩:=d;exact⟨_,_,⟨a,b,F.kp⟩,?jU,ok F⟩
theorem bE{C:Addr}{q:Str}[?m5](m:PySem.W.makesIn K C=true)(kc:W.keepIn K ?k8=true)(d:Px K C ?lE q st)(ok:∀{f fd},Ew K ?lE q st f fd->?lN)(hb:BA ?lE q st ps):eL P w K mg ?a5 C ps k sp:=by
 obtain⟨f,fd,a,b,F⟩:=d;exact⟨_,_,⟨m,a,b,kc⟩,?jU,ok F⟩
universe e9
universe L2
namespace Hb
open PySem L2
def top(i:Nat):Stmt:=PySem.Challenge.pw_holebook_k32_lots_of_points.main.body.getD i (.Pass ⟨0,0,0,0⟩)
structure Fp[?v](mg:?lS)(Ah Ad Aj Aw:Addr):Prop where
 m_Lines:mg "Lines"=?c (?m Ah)
 cl_Lines:Cls K Ah
 na_Lines_rows:Dd K Ah "rows"
 na_Lines_backs:Dd K Ah "backs"
 m_Stairs:mg "Stairs"=?c (?m Ad)
 cl_Stairs:Cls K Ad
 na_Stairs_rows:Dd K Ad "rows"
 na_Stairs_backs:Dd K Ad "backs"
 na_Stairs_starts:Dd K Ad "starts"
 m_Work:mg "Work"=?c (?m Aj)
 cl_Work:Cls K Aj
 na_Work_table:Dd K Aj "table"
 na_Work_width:Dd K Aj ?j1
 na_Work_left:Dd K Aj "left"
 na_Work_right:Dd K Aj "right"
 na_Work_numbers:Dd K Aj "numbers"
 m_Book:mg "Book"=?c (?m Aw)
 cl_Book:Cls K Aw
 na_Book_pieces:Dd K Aw ?qB
 na_Book_levels:Dd K Aw ?s3
 na_Book_lifts:Dd K Aw "lifts"
 x_GAPS:∃a,?x1 "GAPS" [32,16,8,4,2]
 x_FACE_COUNTS:∃a,?x1 "FACE_COUNTS" [0,2,3,4]
 x_MOST_ROWS:∃t,mg "MOST_ROWS"=?c (?d 40 t)
 x_LEVELS:∃t,mg "LEVELS"=?c (?d 4 t)
 x_MOST_PIECES:∃t,mg "MOST_PIECES"=?c (?d 40 t)
 n_isinstance:?w4 "isinstance"
 n_int:?w4 "int"
 n_bool:?w4 ?j9
 n_tuple:?w4 "tuple"
 n_zip:?w4 "zip"
 n_max:?w4 "max"
 n_len:?w4 "len"
 n_all:?w4 "all"
 n_range:?w4 "range"
 n_dict:?w4 "dict"
 n_any:?w4 "any"
 n_list:?w4 "list"
 n_enumerate:?w4 ?cU
 n_min:?w4 "min"
 n_set:?w4 "set"
def OA[?m7]:?e:=(ns.drop (?qU)).take (HT.sIx ?i9 ?i9 hi-?qU)
theorem NZ[?m7]:Jc ?gA lo hi=(?p6).map ?G:=by
 unfold Jc OA;rw[qa2,qp5,qp6]
theorem oA[?m7]:(?p6).length<=ns.length:=by
 unfold OA;rw[qc4,qi5];omega
theorem mS:([?aN]:?h).Nodup:=?i
theorem TH:(?pM:?h).Nodup:=?i
theorem Aa6:(["face",?cJ,"level"]:?h).Nodup:=?i
theorem tH:([?b8,?aN,?cJ,"k"]:?h).Nodup:=?i
theorem Aa5:(["k",?cJ,"thing"]:?h).Nodup:=?i
theorem tG:(?oB:?h).Nodup:=?i
theorem TF:([?b8,"piece","k"]:?h).Nodup:=?i
theorem mP:([?h3,?j1]:?h).Nodup:=?i
theorem Aa4:([?h3,?jI,?j1]:?h).Nodup:=?i
theorem VX:(["j","table"]:?h).Nodup:=?i
theorem vX:([?h3,"j"]:?h).Nodup:=?i
theorem VW:(["i","size"]:?h).Nodup:=?i
theorem vW:(["j","i"]:?h).Nodup:=?i
theorem MR:(["left","right","a","b"]:?h).Nodup:=?i
theorem vV:([?b8,"below",?cJ]:?h).Nodup:=?i
theorem VU:([?b8,?hP]:?h).Nodup:=?i
theorem mR:([?b8,?aN]:?h).Nodup:=?i
theorem MQ:([?h3,"paper"]:?h).Nodup:=?i
theorem mQ:(["j",?aN,"i"]:?h).Nodup:=?i
theorem vU:(["parts"]:?h).Nodup:=?i
theorem MP:(["hole"]:?h).Nodup:=?i
theorem VT:(["part"]:?h).Nodup:=?i
theorem VS:(?hE:?h).Nodup:=?i
theorem vS:(["_law_letter"]:?h).Nodup:=?i
theorem VR:(["_law_i",?oE]:?h).Nodup:=?i
theorem vR:([?oE,"_law_family",?rG]:?h).Nodup:=?i
theorem VQ:(["_law_face",?rG]:?h).Nodup:=?i
theorem vQ:(["_law_place","_law_shape","_law_lot"]:?h).Nodup:=?i
theorem VP:(["_law_kept","_law_other","_law_one"]:?h).Nodup:=?i
section
variable[?m1]{base:Heap}{Ah Ad Aj Aw:Addr}
noncomputable abbrev Qz:Stmt:=top 2
theorem CO:?cR ["thing"] ["thing"] (Au Qz):=Bf
theorem DA[?dF](F:Ew K ?u3 ?u3 Qz f fd)[?dD] :?vW ["thing"] Ih:=by
 refine ?cK CO ?cG;obtain⟨x,d,rfl,hx,k⟩:=h;refine⟨_,(?yA (K8 (?wS (Gy (v:=.ty "int") rfl T.n_int boot_intT rfl)) (M0 (mF (?wS (Gy (v:=.ty ?j9) rfl T.n_bool Yz rfl)))))),?_⟩;refine(?xK ?j rfl);refine ite2 (fun e=>?_) (fun e=>?_)
 . refine(?xK ?r (?j rfl));have e2:Jv d=!iB ?j9 d:=by unfold Jv;rw[e];rfl
   rw[e2]at k;exact k
 . have e2:Jv d=false:=by unfold Jv;simp[e]
   rw[e2]at k;exact k
noncomputable abbrev Hq:Stmt:=top 4
theorem Cp:?cR ["one",?jI,"last","now",?q8,"rest"] ?oA (Au Hq):=Bf
theorem Sg[?dF](F:Ew K ?mI ?mI Hq f fd)[?dD] :?vW ?oA U3:=by
 refine ?cK Cp ?cG;obtain⟨n,p,rfl,hA,hB,lA,lB,k⟩:=h
 refine⟨_,(Af (?wL 2 (?yD ?K))
  (Af (?wL 3 (?yD ?a4))
  (Af (Sa qb9 (Bh Lz (?y7 ?b7 Am) Am ?dT) (Af (?wL 4 (Bp Ka (?y7 ?W Am) (?y7 ?b7 Am)))
  (Af (Av (i:=5) ?cE (?yI (B5 (N':=?pM) (cap:=[none,none,?c 4]) ?H (by kernel_rfl) (qD (K:=K) ?H T.n_zip (Aa ?W (Aa ?b7 Ae))) (?wF (?y6 TH (At (i:=1) TH))) (fun _ _ _ _=>Cb) (?wF (Bp K9 ?K (Bp op_mulX ?W ?a4))))))
  (Af (?wL 2 ?b7)
  (Ak (?wL 3 (pv 5)))))))
  (Af (Cj (Bh Sf (?y7 ?W Am) Am ?dT) (?yA (?yI (B5 (N':=[?aN]) (cap:=[none]) ?H (by kernel_rfl) (Wc (K:=K) ?W) (?wF (At (i:=0) mS)) (fun _ _ _ _=>Cb) (?wF (Lx Hm ?K))))) Bu)
  (?yA ?W))))),?_⟩
 infer_instance
 refine⟨_,rfl,?lP,fun L0 hL0=>?_⟩;have s0:?y H (?wC 0):=?aJ hL0;refine⟨_,rfl,?lP,fun N0 hN0=>?_⟩;have s1:?y (?wC 0) (?o1):=?aJ hN0;refine Gh (fun σ' H'=>σ'=[iS n,iS p,rS L0,rS N0,none,none]/\H'=?o1) ?_ fun Rc=>Rc _ _ ?u2;rintro _ _ ⟨rfl,rfl⟩;refine qw5 (fun σ' H'=>Ex9 fun ?jO (a x y u v:Int) ?jK=>B6 ?oH (?E) (Dy K H' L ?eP) (?xX a 0)) (fun key=>?_) ?_
 . refine⟨fun m σ G=>LG fun ?jO (a x y b u v:Int) ?jK=>BZ (σ=?pP) (?y H G) (Dy K G L ?eP) (Dy K G N ?kI) (?xX a b) (a.natAbs<L9) (b.natAbs<L9) (m=b.natAbs),⟨_,L0,N0,n,1,0,p,0,1,?aT,?aT,rfl,s0.trans s1,.of (s1 _ _ Ab),?fH,Lat.EuI.start hA hB,lA,lB,rfl⟩,?_⟩;rintro m σ G Du;refine QW ?_;intro _;obtain⟨L,N,a,x,y,b,u,v,o4,o5,rfl,s2,hL,hN,hE,la,lb,rfl⟩:=Du;refine⟨_,rfl,N,_,_,_,rfl,rfl,hN,rfl,rfl,_,rfl,?_⟩;ext iJ
   . have hb0:¬b=0:=?aL
     obtain⟨hE2,hlt⟩:=hE.step hA hb0;obtain⟨_,_,_,_,lu,lv⟩:=hE.all hA hB
     have lq:?tT<L9:=by
      refine qb5 ?_ la;have h3:(?L*b).natAbs<=a.natAbs+(a-?L*b).natAbs:=O9m
      rw[qb0]at h3;have h4:0<b.natAbs:=Int.natAbs_pos.mpr hb0;refine qg9 fun h5=>?_;have h6:=qb4 b.natAbs (show a.natAbs+1<=?tT from h5);rw[qf4,qf3]at h6;have h7:=qe3 a.natAbs h4;omega
     have ok:∀z:Int,z.natAbs<L9->?i2 (?L) z:=fun z hz=>aW lq hz;refine⟨fun σ' G'=>LG fun ?jO (a' x y b' u v:Int) ?jK=>BZ ?oH (?oZ) (Dy K G' L [?d a',?d x,?d y]) (Dy K G' N [?d b',?d u,?d v]) (?xX a' b') (a'.natAbs<L9) (b'.natAbs<L9) (b'.natAbs<b.natAbs),?_,?_⟩
     . rintro σ' G' ⟨L',N',a',x',y',b',u',v',o4',o5',rfl,q1,q2,q3,q4,q5,q6,q7⟩;exact⟨b'.natAbs,q7,L',N',a',x',y',b',u',v',o4',o5',rfl,q1,q2,q3,q4,q5,q6,rfl⟩
     refine⟨_,rfl,L,_,_,_,rfl,rfl,hL,rfl,_,rfl,N,_,_,_,rfl,rfl,hN,rfl,_,_,rfl,rfl,Uu.of9 hb0 lb,?_⟩;refine⟨_,rfl,_,rfl,L,N,rfl,?uA,⟨_,hN⟩,?jB⟩
     have gv:∀(i:Nat) (e f:V),(?eP:?g)[i]?=?c e->(?kI:?g)[i]?=?c f->∃e' f':Int,e=?d e'/\f=?d f'/\?i2 (?L) f'/\i<3 ∧
      (?f0:?g)[i]?=?wX (e'-?L*f'):=by
      intro i e f he hf
      match i,he,hf with
      | 0,he,hf=>cases he;cases hf;exact⟨a,b,rfl,rfl,ok _ lb,?bJ,rfl⟩
      | 1,he,hf=>cases he;cases hf;exact⟨x,u,rfl,rfl,?qL,?bJ,rfl⟩
      | 2,he,hf=>cases he;cases hf;exact⟨y,v,rfl,rfl,?qL,?bJ,rfl⟩
      | i+3,he,hf=>simp at he
     refine gH (K:=K) (a:=L) (b:=N) (xs:=?eP) (ys:=?kI) (n:=3) ?u2 (fun i zs τ G1=>B6 (?y G G1) (G1 D=?w6 zs) (zs=(?f0:?g).take i) (Jp fun o1 o2=>τ=[o1,o2,?wX (?L)]))
      ⟨?kE,Ab,rfl,?aT,?aT,rfl⟩ (fun i zs τ G1 _ hz=>by obtain⟨s3,_⟩:=hz;exact⟨s3.seqT hL,s3.seqT hN⟩) ?_ ?_
     . rintro i e f zs τ G1 pr he hf Du hpr;revert τ;refine tM ?_;intro s3 BG hzs o1 o2 Fc;obtain⟨e',f',rfl,rfl,hok,wQ,hnext⟩:=gv i e f he hf;have sp:?y G1 (upd G1 pr (?D [?d e',?d f'])):=?aJ hpr;refine(?wP pr);refine⟨_,rfl,_,rfl,_,rfl,_,_,rfl,rfl,hok,_,_,rfl,rfl,?_⟩;refine⟨sp _ _ BG,?rR,(?q3 sp).turn hD,Ab,?_,_,_,rfl⟩;rw[qg0,hnext,hzs];rfl
     . ext v0;have WK:zs=?f0:=hzs;have hT2:Dy K (upd G1 T1 (?D zs)) T1 ?f0:=?r0
       exact⟨_,rfl,_,rfl,N,T1,b,u,v,a-?L*b,x-?L*u,y-?L*v,_,_,rfl,(s2.trans s3).trans s4,(?q3 s4).seqT hN,hT2,hE2,lb,qt4 hlt lb,hlt⟩
   . have hb0:b=0:=?aL
     subst hb0;exact key _ _ ⟨L,N,a,x,y,u,v,o4,o5,rfl,s2,hL,hE⟩
 refine yU fun L N a x y u v o4 o5 G s2 hL hE=>?_;intro sq;obtain⟨e1,e2,e3⟩:=hE.last hA hB;refine⟨_,rfl,L,_,_,_,rfl,rfl,hL,rfl,_,_,rfl,rfl,_,rfl,?_⟩;ext iJ
 . have ha:a<0:=?aL
   refine⟨_,rfl,L,rfl,?uA,?jB⟩
   let Pq1:?t3:=fun i zs τ G1=>B6 (?y G G1) (G1 D=?w6 zs) (zs=(?jQ:?g).take i) (E4 fun o1=>τ=[o1])
   refine Uo (K:=K) (a:=L) (xs:=?eP) Pq1
    ⟨?kE,Ab,rfl,?aT,rfl⟩ (fun i zs τ G1 _ hz=>by obtain⟨s3,_⟩:=hz;exact s3.seqT hL) ?_ ?_
   . rintro i e zs τ G1 he Du;revert τ;refine Ij ?_;intro s3 BG hzs o1 Fc
     have gv:∃e':Int,e=?d e'/\i<3/\(?jQ:?g)[i]?=?wX (-e'):=by
      match i,he with
      | 0,he=>cases he;exact(?xQ a)
      | 1,he=>cases he;exact(?xQ x)
      | 2,he=>cases he;exact(?xQ y)
      | i+3,he=>simp at he
     obtain⟨e',rfl,wQ,hnext⟩:=gv;refine⟨_,rfl,_,rfl,BG,?rR,s3.turn hD,Ab,?_,_,rfl⟩;rw[qg0,hnext,hzs];rfl
   . ext v0;have WK:zs=?jQ:=hzs;exact k T1 (-a) (-x) (-y) _ ((s2.trans s3).trans s4) (?r0) (e2 ha)
 . have ha:¬a<0:=?aL
   exact⟨_,rfl,k L a x y G s2 hL (e1 O9m)⟩
noncomputable abbrev Qy:Stmt:=top 7
theorem cO:?cR ?hE ?hE (Au Qy):=Bf
theorem CZ[?dF](F:Ew K ?pY ?pY Qy f fd)[?dD] :?vW ?hE Kl:=by
 refine ?cK cO ?cG;obtain⟨x,ds,rfl,hx,k⟩:=h;refine⟨_,(?yA (Bb (KW ?H) T.n_max LB (Aa (Bp K9 (?wZ ?K) Am) (Aa Am Ae)))),?_⟩
 obtain⟨p,us,e,hq,hl⟩:∃(p:Addr) (us:?g),x=?bO/\(?xH p us\/Dy K H p us)/\us.length=ds.length:=by
  rcases hx with⟨p,us,e,hq,r⟩|⟨p,us,e,hq,r⟩
  . exact⟨p,us,e,?j hq,?kD⟩
  . exact⟨p,us,e,?r hq,?kD⟩
 subst e;refine⟨_,rfl,p,us,rfl,hq,_,_,rfl,rfl,_,_,rfl,?_⟩;rw[hl];exact k
noncomputable abbrev K0:Stmt:=top 10
theorem J0:?cR [?cJ,"faces","j","i"] ?uM (Au K0):=Bf
theorem Xi[?dF](F:Ew K ?uX ?uX K0 f fd)[?dD] :?vW ?uM N8:=by
 refine ?cK J0 ?cG;obtain⟨a,v,xs,p,rfl,hL,hv,Pl,hf,k⟩:=h;obtain⟨pa,rfl,hq⟩:=hv.sq;have hpl:(p.map ?G).length=p.length:=qa2 ..
 refine⟨_,(Af (Cn qb9 rfl (Cm ?H ?nS (Aa (?wZ ?a4) Ae)) (At (i:=2) J0.nd) (Ak (Cn qb9 rfl (Cm ?H ?nS (Aa ?W Ae)) (At (i:=3) J0.nd) (Ak (Cj (Bh Lz (?y7 (?wQ ?W) ?b7) (?y7 (?wQ ?b7) (Bp K9 ?W Am)) ?dT) (?yA Nr) Bu)))))
  (?yA Nr)),?_⟩
 infer_instance
 refine⟨_,rfl,pa,_,rfl,?r hq,_,rfl,O9m,O9m,?_⟩;rw[hpl]
 let Pq2:?fN:=fun j σ H2=>Ef (H=H2) ((∃o2 o3,σ=[rS a,rS pa,o2,o3])) (∀j' i',j'<j->i'<j'->S9 xs p j' i'=true)
 refine Cs (lo:=0) (n:=((p.length:Nat):Int).toNat) Pq2
  ⟨rfl,⟨?aT,?aT,rfl⟩,fun j' i' h=>?r5⟩ ?_ ?_
 . rintro j σ H2 hj Du
   and_intros
   obtain⟨rfl,⟨o2,o3,rfl⟩,hall⟩:=Du;have hj':?nX:=O9m
   refine⟨_,rfl,_,rfl,O9m,O9m,?_⟩
   let Pq3:?fN:=fun i σ H2=>Ef (H=H2) ((∃o3,σ=[rS a,rS pa,?wX (0+j),o3])) (∀i',i'<i->S9 xs p j i'=true)
   refine Cs (lo:=0) (n:=?pZ) Pq3
    ⟨rfl,?b6,fun i' h=>?r5⟩ ?_ ?_
   . rintro i σ H2 hi Du
     and_intros
     obtain⟨rfl,⟨o3,rfl⟩,hall2⟩:=Du;have hij:i<j:=O9m
     have mj:?iG∈p:=by rw[qa4,qa0 hj'];exact ?cC
     have mi:?fX∈p:=by ext bL;exact ?cC
     obtain⟨j0,j1,j2⟩:=hf _ mj;obtain⟨i0,i1,i2⟩:=hf _ mi;obtain⟨_,z,hq1,yN⟩:=?xO ?fG hv;cases z;rw[show ?pZ=j by omega]at yN;obtain⟨_,z,hq2,at2⟩:=?xO ?l6 hv;cases z;rw[?o3]at at2;obtain⟨us1,v1,hu1,av1,tv1⟩:=LT.get hL j0 j1;obtain⟨us2,v2,wL,av2,tv2⟩:=LT.get hL i0 i1;obtain⟨b1,e1,hb1,ab1⟩:=?xO ?l6 tv1;obtain⟨b2,e2,hb2,ab2⟩:=?fA (i:=?fG-1) tv2 O9m O9m;subst e1 e2;rw[?o3]at ab1;rw[show(?fG-1).toNat=j-1 by omega]at ab2;refine⟨_,rfl,_,rfl,_,rfl,pa,_,_,_,rfl,rfl,hq1,yN,a,us1,_,_,rfl,rfl,hu1,av1,_,rfl,b1,_,_,_,rfl,rfl,hb1,ab1,?_⟩;refine⟨_,rfl,_,rfl,_,rfl,pa,_,_,_,rfl,rfl,hq2,at2,a,us2,_,_,rfl,rfl,wL,av2,_,rfl,_,_,rfl,rfl,b2,_,_,_,rfl,rfl,hb2,ab2,?_⟩;refine⟨rfl,_,rfl,?_⟩;by_cases hag:?w7 0
     . refine Nv (eqI hag) ?_;refine⟨rfl,?b6,fun i' h=>?_⟩;by_cases hz:i'=i
       . subst hz;unfold S9;exact qg3 hag
       . exact ?mZ
     . refine bA (neI hag) ?_
       have e2:Lj xs p=false:=by
        cases q:Lj xs p with
        | false=>rfl
        | true =>
          unfold Lj at q;rw[qe9]at q;have q2:=q j (?gI hj');rw[qe9]at q2;have q3:=q2 i (?gI hij);exact ?U (qd2 q3) hag
       rw[e2]at k;exact k
   . rintro σ H2 ⟨rfl,⟨o3,rfl⟩,hall2⟩;refine⟨rfl,⟨_,_,rfl⟩,fun j' i' h1 h2=>?_⟩;by_cases hz:j'=j
     . subst hz;exact ?mZ
     . exact hall j' i' O9m h2
 . rintro σ H2 ⟨rfl,⟨o2,o3,rfl⟩,hall⟩
   have e2:Lj xs p=true:=by
    ext vE;have:=?k9;exact hall j i O9m (?e7)
   rw[e2]at k;exact k
noncomputable abbrev W8:Stmt:=top 16
theorem j9:?cR [?hP,?b8,?aN,"total"] ?rD (Au W8):=Bf
theorem JO[?dF](F:Ew K ?p0 ?p0 W8 f fd)[?dD] :?vW ?rD Pf:=by
 refine ?cK j9 ?cG;obtain⟨a,ms,k,n,rfl,ha,hl,kq⟩:=h;have dQ:=hr.u8
 refine⟨_,(Af (Av (i:=3) j9.nd (Bp Ei (cV (u1 dQ) ?K ?a4 Am ?sX) ?W))
  (Ak (Cj (Bh E5 ?b7 Am ?dT) (Ak (Br (MG ?K ?a4 FE ?sX))) (Ak (pZ (u1 dQ) ?K ?a4 ?b7 ?H))))),?_⟩
 infer_instance
 refine⟨_,rfl,a,rfl,?j ⟨_,?j ha⟩,_,rfl,_,iG (?j ha),_,rfl,?a2,n,iL ms k,rfl,?_⟩;refine ?o9;ext iJ
 . have e:?gS=0:=?aL
   unfold Im at kq;rw[?c7]at kq;refine⟨_,rfl,a,rfl,?j ⟨_,?j ha⟩,_,rfl,?e0,?j k,ha,rfl,fun v hv=>?_,fun hn=>?_⟩
   . rw[RX];exact kq
   . rw[oF]at hn;have hn':Dg ms k=none:=by simpa using hn
     have e2:?fM=ms:=by
      unfold Hl;rw[List.filter_eq_self];intro p hp
      have:¬?cQ:=fun z=>by
       have h3:(ms.any fun p=>?q (?cQ))=true:=qm8.mpr ⟨p,hp,by simpa using z⟩;rw[Wg]at h3;obtain⟨p',wM,e'⟩:=?S h3;rw[←e']at hn'
       have:∀(ns:Ms),p'∈ns->Dg ns p'.1≠none:=by
        intro ns
        induction ns with
        | nil=>intro z;cases z
        | cons q ns ih =>
          intro hq;rw[Db];split
          . exact ?o6
          . rename_i hne
            rcases qb6.mp hq with rfl | hq
            . exact ?U rfl hne
            . exact ih hq
       exact ?dB ms wM hn'
      simpa using this
     rw[e2,uS ha]at kq;exact kq
 . have e:¬?gS=0:=?aL
   unfold Im at kq;rw[?dS]at kq;exact⟨_,rfl,_,rfl,_,rfl,a,_,rfl,rO ha hl,kq⟩
noncomputable abbrev AM:Stmt:=top 17
theorem LU:?cR ?jW ?jW (Au AM):=Bf
theorem MK[?dF](F:Ew K "times" "times" AM f fd)[?dD] :?vW ?jW cH:=by
 refine ?cK LU ?cG;obtain⟨n,a,ms,rfl,ha,hm,hok,k⟩:=h
 refine⟨_,(Af (Cj (Bh E5 ?K Am ?dT) (?yA Se) Bu)
  (Ak (Be (Dr (Yw ?H) ?H T.n_dict Nj (Aa (mG (B5 (N':=?oB) (cap:=[none,none,?c 0]) ?H (by kernel_rfl) (Ol ?a4) (?wF (?y6 tG (At (i:=1) tG))) (fun _ _ _ _=>Cb) (?wF (D5 (Aa ?K (Aa (Bp op_mulX ?W ?a4) Ae)))))) Ae))))),?_⟩
 infer_instance
 refine ?o9;ext iJ
 . have e:n=0:=?aL
   intro D hD;refine k D _ hD (?kE) ?_;rw[Ab];unfold Tf;rw[?c7];rfl
 have e:¬n=0:=?aL
 refine ?r ⟨a,?e0,ha,fun hnd o=>?_⟩;refine⟨_,rfl,a,o,?e0,rfl,Ab,?jB⟩;obtain⟨RJ,nDa⟩:=DS hD
 let Pq4:?t3:=fun i zs τ H1=>E4 fun(ts:?uQ)=>Nm (zs=ts.map ?gX) (ts.length=i) ((∀(j:Nat) t,ts[j]?=?c t->∃p:?aU,ms[j]?=?gZ/\H1 t=?c (?D [?d p.1,?u7])/\t≠D)) (H1 a=?c (.frz o ?bX)) (H1 D=?w6 zs) ((∀c q,c≠a->?uG)) (Jp fun o1 o2=>τ=[o1,o2,iS n])
 refine Yq (d:=a) (o:=o) (kvs:=?e0) Pq4
  ⟨[],rfl,rfl,(fun j t z=>by simp at z),?_,Ab,?_,?aT,?aT,rfl⟩ (fun i zs τ H1 _ hz=>by obtain⟨_,_,_,_,e,_⟩:=hz;exact e) ?_ ?_
 . rw[Al nDa.symm];exact Ab
 . intro c q n1 e2;rw[Al (Ap e2 RJ),Al n1];exact e2
 . rintro i kk x zs τ H1 p hx ⟨ts,rfl,IB,hts,ha1,Er,hk1,o1,o2,rfl⟩ hp;obtain⟨q,hq,rfl,rfl⟩:=Yx hx;have hlt:i<ms.length:=(?a6 hq).1;have sp:?y H1 (upd H1 p (?D [?d q.1,?d q.2])):=?aJ hp;refine(?wP p);refine⟨_,rfl,_,rfl,_,rfl,_,_,rfl,rfl,hok q (qc6 hq),?lP,fun t ht=>?_⟩;have st:=sp.trans (?aJ (o:=?D [?d q.1,?d (n*q.2)]) ht);have ntD:t≠D:=(Ap (sp _ _ Er) ht).symm;refine⟨st _ _ Er,small (by rw[qa2];omega),ts++[t],?hK,by simp[IB],fun j t' e2=>?_,?_,Ab,fun c r n1 e2=>?_,_,_,rfl⟩
   . rw[List.getElem?_append]at e2;split at e2
     . obtain⟨p',eN,h2',h3'⟩:=hts j t' e2;exact⟨p',eN,by rw[Al h3'];exact st _ _ h2',h3'⟩
     . rename_i hj
       have hj0:j-ts.length=0:=by
        cases hz:j-ts.length with
        | zero=>rfl
        | succ m=>rw[hz]at e2;simp at e2
       rw[hj0]at e2;have et:t=t':=by simpa using e2
       subst et;refine⟨q,by rw[show j=i by omega];exact hq,?_,ntD⟩;rw[Al ntD];exact Ab
   . rw[Al nDa.symm];exact st _ _ ha1
   . have:=hk1 c r n1 e2;rw[Al (fun z=>by rw[z,RJ]at e2;cases e2)];exact st _ _ ?dB
 . rintro zs τ H1 ⟨ts,rfl,IB,hts,ha1,Er,hk1,_⟩;rw[Rk]at IB;refine⟨ha1,D,ts,cK (?O fun p=>(p.1,n*p.2)),rfl,(by rw[Al nDa];exact Er),(by rw[Rk,qa2];exact IB),fun i t e2=>?_,fun E hE=>?_⟩
   . obtain⟨p,eN,h2',_⟩:=hts i t e2;refine⟨(?j p.1,?u7),?_,?_⟩
     . unfold cK;rw[qa9,qa9,eN];rfl
     . have nta:t≠a:=Ep h2' ha1 (?o6);rw[Al nta];exact h2'
   . have s1:?y H (upd H1 a ?bX):=fun c q e2=>by
      by_cases z:c=a
      . subst z;rw[ha]at e2;cases e2;exact Ab
      . rw[Al z];exact hk1 c q z e2
     refine k E _ (s1.free hE) (s1.trans (?aJ hE)) ?_;rw[Ab];have hnd':?bZ:=Xr.mp hnd;rw[M3 _ [] (by rw[qn8];exact Xr.mpr (fK hnd' n))];unfold Tf;rw[?dS,qn8]
end
mutual
#check(4,[?a,?b,some,.int,(?eO),base,(pv 0),Same,.lst,(pv 1),.ref,none,fun Ds A outer s H vs Q E hr h=>?_,F.okZ,FnScope,∀(T:Fp K mg Ah Ad Aj Aw),a,∀{f:Addr}{fd:FuncData},a,(pv 2),(Bn _),.tup,.inl,Same.new,V.int,.inr,(pv 3),(fun _ _=>rfl),(by ext B),.(by kernel_rfl),.(by ext E),.(by simpa using this),.(by simpa using h1),Nat->?cE->St->Hp->Prop,.(by infer_instance),(?w4 Bc),decide,(pv 4),.(by decide +kernel),(fun _ _ _ _=>Cb),rS a,if_neg,fun D hD=>?_,hc.1,putF,if_pos,(fun key=>?_),.ins,iS fam,(?w0 ?g),(?tA Ba ?g),Reps.same,.(by and_intros),qa8 _,?c6 O9m,Reps,s2.trans,.(by revert τ;refine Ij ?_),(?w0 ?j),(-(B / g)),"number",.(by refine⟨_,rfl,_,_,rfl,rfl,_,rfl,?_⟩),.(by refine ?bC (fun h1=>?_) (fun h1=>?_)),.(by refine⟨_,rfl,rfl,_,rfl,?_⟩),c%1000000%4,"table",?c v,Kp.upd,.(by ext aJ),Ci.nd,rS L,?d i,iS i,.(by simpa using h2),(?uO rfl),B7.nd,Option V,T.n_range,?R rfl,"self","shape",(i+1),(?cB),as.map ?cF,"row",(H1 D=?bO),rS p,B9 (?cK),(?cP),"width",(0:Int),(?h H H1),rS l,(f+d),SameX,?v hD,xs.length,?v hp,(i:Int),(Aa ?r Ae),s1.seq,hc.2.2,ite2,D7.nd,"_law_family",qa0 hi,(pv 6),(?tA Ca ?g),(pv 5),(?h H H2),T.n_len,(upd H2 R1 (?i (lu++ru))),hc.2.1,[?aP,?bU,?eD],?t3 ys,?gR j [],(?vQ ?V),Ax w fam,Rep.same,?eU s2,"rows",.(by ((repeat (first | rw[An,?aO] | ext lS))<;>first | rfl | assumption)),fun a ha=>?_,(?w4 Az),C5.nd,(?vE ?j),.of Ab,Kp.of,?gR i [],"other","place","_law_word",small,(?iA,Lat.one),(w.length:Int),(Aa ?g ?a4),for_list,A / g,SameX.upd,s1 _ _ xb.2.1,List V,V.ref,T.n_list,Do xs i,(?w4 Bj),iS letters,.(by simp),Dn.nd,(Gd Ae),C0 ws ?h5 (?j4 m),(pv 8),.(by decide),.(by obtain⟨s1,_⟩:=hz),T.n_isinstance,List.replicate,Ev ws (?iC j),(?w4 L1),?b0+?d9,T.cl_Stairs,(pv 7),bo.1,rS b,(?i []),(B8 _ _ _),rS D,(?h H H'),(?h H G),"turn",ps.take,?gR i.toNat [],(?g9 hx).1,(j:Int),ws.map tI,"thing",?eY ?_,g.trans,?b0+?b8,"chain",Dh ?oG,"one",?bA hq,(pv 9),"list",?t3 ws,(?w4 C3),?u hq,.(by refine Nv ?eE ?_),.(by rintro i x ys τ H1 hx Du),.(by exact k H (?fG H)),.(by revert σ;refine U8 ?_),.(by rintro i σ H2 hi Du),.(by rw[e2]at k;exact k),T.cl_Work,k H1 s1,(by ext K),s2.seq,w.take,(?vP Nr),Ax ?e2 fam,(o:?aM),layer[j],(?g9 hv).1,(?t5 [o]),(?h8),?k p1,Jq.nd,(?lY),(ws:?cE),(by omega),sL.seq,[none],"backs",(?lZ),s1.turn hD,"_law_words",?eU sp,?N (fun z=>?jP (z▸hm) ?dW),fam=0,(?vE ?g),(j+1),sH.trans,[?aQ,?dB,"level"],.(by rfl),p.2.2.2,TI.same,fun e=>?r1,q.1.toNat,Hf hv,s1.trans,Ut.of,?d (fs.getD i 0),List Int,TI.mk,.(by refine(?t6 a ?kO)),.(by refine ?bC (fun h2=>?_) (fun h2=>?_)),.(by rintro ys τ H1 ⟨s1,Er,rfl,_⟩),.(by intro s1 Er hz1 o Fc;subst hz1),.(by rintro σ G Du;revert σ),.(by refine Nn ?_;intro sq),.(by refine⟨_,rfl,?_⟩),.(by simpa using hx.symm),?t3 zs,w.length-1,iS most,Al nD,(?fK).1 i (t ?b3) / s.1 ?b3 (t ?b3),id hL,?eU g,.(by ext hZ;ext D),σ'=[?aW,rS ta,?c (?d (w:Int))],Same.refl,(?bR)[m],PW.pt,(c':Int),?n2 t i f s d,SameX.of,fun _=>False,?c q,(D5 Ae),(?c2).length,Nat->St->Hp->Prop,[none,?g8],fam<0,(?vS ?g ?j),[?dH,?c3],?N hf,[?dB,"bound"],?nL (?gU 0 0).toNat 0,Fy.nd,?kF 1,cK ns,"_law_shape",?uZ m,[?kL,"i"],(?w4 Sm),g.seq,k01.trans,gp _ _ Eo,?c 1,qa3.mp,?N h3,fun l=>[l],List.range,B9 ?eE,BS ?oG,?u rfl,M5 ?b6 (ls.take i),"numbers",?c 0,?N ?dW,(v:V),(w.length=i),sp.zip ns,T.n_enumerate,cK p.2.2.1,?c6 (by rw[Bq];omega),[?aP,?d5],xs.getD,[?dB,"many"],iS kind,(?c2).getD,(?iG),iS c',U5 lf (?d6 j),[?d5],[?aQ,"k"],Lat.blendR,?k a,if j=i then 1 else 0,?c 2,p.1=1,(?rF),(w:?eX),(TI K H2 v w),?cC (SameX.refl _ _),[?dB],(?w0 ?y),[?aB,"j"],Al ?l5,(?w0 (?vS ?W ?r)),"__init__",["a",?dH,"b",?c3],.(by have:=r.length;ext D),(?vE ?bI),qj9.mp,?uA D,⟨_,_,?l,[],rfl,?v hp0,?l7,rfl⟩,(?cH).map,[?kL],(?tA M8 dQ),layer,.(by refine⟨_,rfl,_,_,rfl,rfl,?l6,?Z,fun p0 hp0=>?_⟩;refine⟨_,rfl,_,rfl,O9m,O9m,?_⟩),.(by rintro σ H2 Du;revert σ;refine U7 ?_;intro c' v o w s2 tv hwl Fc;exact⟨_,rfl,k v H2 w s2 tv (hW w hwl)⟩),.(by refine(?tF p)),.(by refine⟨_,rfl,_,rfl,O9m,O9m,?O⟩),.(by refine ?bC (fun e=>?_) (fun e=>?_)),.(by rw[?aO,Rl];simp[h1]),.(by injection this with this),.(by rintro _ _ ⟨rfl,rfl⟩),.(by refine Nv (?cK) ?_),.(by revert σ;refine HZ ?_),.(by have:=?d8),Nv (mO O9m) ?_,Nv ?dW ?_,"faces","ones",?I (0<=i)&&?I (i<?kH),k D H1 hD s1 Er,(?aT).set,.(by simpa using h3),ns.map ?w,(f+d:Nat),Lat.one,Ut r b H1 G,rows.take,T.m_Lines,[none,?gI],"_law_faces_by",w.map ?w,?x (?x (?x (?nG))),(?hL ?n5).take,.(by simpa using h4),["spots",?dF],⟨_,rfl⟩,qa0 hj3,?mO fun f=>?pW,[?dB,?aZ],e.symm,fun T1 hT1=>?_,["k","bound"],⟨[],rfl,rfl,Rows.nil hD,?l,rfl⟩,?bA hb,"told",fun w=>?iN,s2.free,T.n_all,?jS=oth,"one_row",?jF s4,List (Str × V),T.na_Stairs_rows,(?a2 s3).trans s4,(?e0).take,R1.same.free,Nz xs 0 j,R1.free,(Rj ((?gM).take i)).length,?dY i++[(w.getD i 0+?jR)%fam]++?kF (i+2),upd G p (?tZ nv),Cls K C/\Dd K C ?bU/\Dd K C ?eD,[?gH,?aB,?aZ],[?aB,?aZ],xa.row,s3.trans,upd G T1 (?t [.str "add",?aH,?d (?i9:Int),?d (-qq)]),i<w.length,fun Rc=>Rc _ _ ?kZ,.of Er,[?dH,?c3,?aZ],"is_whole_below",fun i=>?qN,[?c5,?bE],?nL (?gU 1 0).toNat 0,absurd,"_law_word_by",w.getD ?aR 0,(?cH)[j],qq6 _ ?aY,lot.getD,[?aQ,"k",?c4,?a6],i<ns.length,"_law_k","is_place_of_level",qa0 hjl,(l:Addr),"plus","_law_cell",pc xs (?cV),acc.map tI,?c6 (by rw[qa2];omega),"is_list_of_wholes",T.n_zip,s1.seqT hq,fun m hm=>?_,?dD gp,.of hl,[?eG,?c5,?bE],bs.any id=true,"list_times",w.drop,.(by rw[hfs];ext bV),(xs.length:Int),s1.free,belowD (?aH) b,(?e0).length,"size",?I (i<b),fun D2 H2 Su s2 h2=>?_,⟨_,hq⟩,[?k2,?bE,?pZ],"turned",[?aQ,"k",?aU],fun X1=>?_,"column",qa0 hj,"places_of_level","_law_one","mixed",(?gC i).map,⟨rfl,rfl⟩,["lines",?d5],?v hT1,qa0 hmf,fun i=>?j9,Fa fam w,fun z=>?_,⟨?cP,?cP⟩,?eY (?c0),?d w[i],"across","_law_words_with",fun p hp=>?_,["_law_script",?jX],H' p=?c (?T Aj dx fs),?a2 sp,[?aP,?aB,?aZ],.(by revert σ;refine U7 ?_;intro c' v o w s2 tv hwl Fc;obtain⟨a,rfl,Vw⟩:=tv.sq;refine ?mJ;have s3:?uC pt (?t [?d (?nZ)]):=?v WL;refine ?rV;refine ?nR;refine(?uY [?nZ]);rw[qb1];exact q3),.(by exact⟨?vJ R.at,?k5,as++[D2],by simp[hal],by rw[qb1];rfl,R.push Su s2 (by rw[hal];exact h2),_,rfl⟩),.(by rintro ys τ H1 ⟨as,hal,rfl,R,_⟩;exact k D as H1 O9m R),.(by exact⟨?cW,?j2,T.na_Stairs_backs⟩),.(by refine(?u3 hT1)),.(by exact⟨T.cl_Lines,T.na_Lines_rows,T.na_Lines_backs⟩),.(by refine(?tF pr)),∀(Hw:Has P w K mg ?f ?kX ?hF 1 (Ru K)),a,∀(Fk:Has P w K mg ?f "level_of" ["piece"] 1 (Kl K)),a,∀(Fl:Has P w K mg ?f "is_whole" ?h9 1 (Ih K)),a,.(by refine⟨_,rfl,_,rfl,rfl,_,rfl,?_⟩),.(by obtain⟨hi,b,rfl,hb⟩:=Nb i _ hx),.(by rw[An,?gJ]),.(by refine bA ?eE ?_),.(by rw[hlen];rintro ⟨_,z⟩),.(by rw[hlen];rintro ⟨z,_⟩),(?u3 hT),(?i4)=true,upd H1 p (?T C dx (?tT fs)),.(by simp;omega),p.2.2.1.take,.(by rw[qo9]<;>rfl),Hh ms fs n i,Me (ws:=ws) (fam:=fam) (layer.take j) [] (fun u hu=>yJ u (qp3 hu)),Bl (Ch h1),upd G E (.dK []),(o1 o2 o3 o4 o5 o6 o7:?aM),.(show ?mU by omega),Pc ws w fam,(us.length:Int),us.length=xs.length,?bC (fun h4=>?_) (fun h4=>?_),sp _ _ Er,fun e=>eqD e (?d (ds.length:Int)),(top 58),(z▸Su),Al JR.symm,[?M,?b2,o2,o3,o4],"without_borders",⟨_,rfl,_,rfl,_,rfl,_,_,rfl,rfl,hb0,?aX,fun pt WL=>?_⟩,Do xs ?aR,G1 a=none,.(show ?uE 1 1 by omega),.(show(1:Int)=((1:Nat):Int) by omega),(?bR).map,sV.free hnm,[?M,?cZ,?d2,o1,o2,o3,o4,o5,o6,o7],AV ?aY ?aY,w.length=1,?uA M,(?dE)=((i:Nat):Int),?bS s1 hL,Kp H3 H',ys.length<=40,.(by rw[qa9,?l2];rfl),(?e0)[m],fun hnd o=>?_,(ws.take i).map,Lat.shrS,(?rS).length,zO _ _ dR,fun v=>if v=oth then one else v,s4 _ _ Eo,(bs.map ?cF).set i (?k D3),upd G p (?t [?aH,?k b]),.(by have:=rM.length;ext D),?cS (VI n f).length true,qa6 ?d1 ?qK,Int.emod_nonneg _ ?aY,Nt xs k p n,((f:Nat):Int),.(by simp[putF]),?x (?gF),?vJ Ab,m<fu.length,?cS ?pR true,Lat.Straight,(?cH).getD,"_law_shape_by",(z▸R2.free),"_law_most",⟨_,rfl,rfl,?_⟩,fun T hT=>?_,⟨_,rfl,_,rfl,_,_,rfl,rfl,⟨hb0,hb1⟩,?_⟩,?vJ Er,"_law_whole",(o2 o3 o4:?aM),"_law_cells",Do xs ?b6,(x2.same s3).there.1,(?aA:Int).toNat,c'%letters,?dY (?f8),[?aP,"i","first"],(?g6 k19),?tI ?kZ,k D ys H1 hD s1 Er r1,∀o,H c=?c o->G c=?c o,.ad i ?b3 (-qq),[?dF,?i2,?a6],"_law_other",sL.seqT hT,upd H4 nm ?d0,"_law_more","_law_face","_law_lots",(?cV).toNat,?bS R.same hv,ds.length,H0 a=none,?uP L (?aT),"add_faces",?X sa rL,⟨hz,O9m⟩,(?bP).length,sa.seqT hq2,[?aQ,"bases"],g1 _ _ Eo,.(by simp[hwl]),"start_of",?uA a,R1.same.trans R2.same,⟨_,rfl,_,_,rfl,rfl,?_⟩,upd G1 t (?tZ nv),j<xs.length,⟨_,qa0 O9m⟩,(bu:?cE),⟨c,O9m,h2,h3⟩,fun pa Ha sa qa=>?_,⟨YM,_,rfl,s5,TX,?_,NH⟩,T.n_tuple,Nz xs 0 ?eL,"chain_of",(qc6 hq),.(by rw[qa9,?jZ];rfl),Yi xs (?t ds),layer++rows,Gj ms (ns.take i),"check_level",[?d g,?d a,?d c],⟨Er,sz,?eF,Ab,?_,_,rfl⟩,(Fg [0,2,3,4]).any,(3:Int).toNat,(?g9 hy).1,"_law_size",KG _ _ hLr hLb h,⟨T1,_,rfl,?c0,⟨_,_,rfl,rfl,_,_,rfl,rfl,_,_,rfl,rfl,_,_,rfl,rfl,rfl⟩⟩,"_law_kind",(qh2 _ _),(?dY i).map,.(by simpa using h6),Dh ?oM=i,?tA x.row hi,fun j=>?h2,[rS ta,o1,o2],us.length,∀w:?eX,w.length=(?aA).toNat->?l4,?i6 i (?k D1),M6 ws fam 4 [w] [],?p7=false,(bB ws f:Int),sp.map ?w,fc∈acc,"_law_letters",Al rb.symm,⟨ws,_,_,_,_,_,_,rfl,g,Eo,dd,cA⟩,LT.len hL,(?i us),a=O3\/a=O4,"flipped",(?bR).length,"numbers_at",hk1 c r n1 n2 e,fun E hE=>?_,z.there.1,ns.getD i 0,(?cN).length,w.length=0,?eQ s3 tx,w.length,.(by rw[Bq]),.(nomatch z),[?M,rS af,iS n,o1,o2],ys.length=i,(qi4 ?d1),[none,none,?g8],sp.getD i 0,?dY i++?kF ?aR,?h HL H1,C0 ws ?h5 (?j4 (m+1)),[?aP,"i","j",?dH,?c3],T.na_Stairs_starts,"lifts_of",TA.of R1 hl1,fun G4 fs hfs wW=>⟨rfl,?_⟩,X1 _ _ ?kZ,(z.same sn).there.1,⟨?Z,?b5,Ab,rfl,?l,rfl⟩,?fZ::(?kY ?l3),[?aQ,?dB],upd G2 pr (?t [?d j,?d (M i j)]),De xs e (?dG-1),?I (?w fam=?w 0)=true,?tA ?jE hi,"_law_cell_at",qg8 _ O9m,s1 _ _ hp,Mx CA r4 t4,.(by simpa using hi),"is_table",(?k pa),j<ns.length,dd.keep fun c kvs e0 e=>?_,Fa fam u,T.n_dict,?vL (layer.take j),.(by simp at z),bA ?dW ?_,[?pJ,?nV,?nO],"_law_lot",?h G3 G4,R.same.seq,"is_straight","is_list_of_few",a=nm\/?q4,?uA D2,List Addr,"is_part",?Q ?bU (?cF D1) fs,"_law_i","product",⟨a,pt,_,_,rfl,rfl,s3.seqT Vw,?c0,?gD,fun p3 H3 s4 q3=>?_⟩,(?c8-1).toNat,(?v ndl).turn,.(by refine ?lW;refine ?i1;exact⟨_,rfl,k _ _ (?fG H) hu⟩),.(by obtain⟨f1,f2⟩:=fin i D H1 hi hD s1 (by rw[Er];congr 2;exact Pb fun c _=>by simp[pJ]) fun r hr=>by funext c;simp[pJ,hr]),.(by refine⟨_,rfl,_,_,rfl,rfl,(?tE 3),rfl,_,rfl,?_⟩;refine ?bC (fun _=>?_) (fun _=>?_)),.(by obtain⟨ta,vs,rfl,hT,rT⟩:=hu;obtain⟨_,_,rfl,rfl,_,_,rfl,rfl,_,_,rfl,rfl,_,_,rfl,rfl,rfl⟩:=rT),.(by revert σ;refine ND ?_;intro L R lu ru layer rows o5 o6 o7 o8 o9 sH hL rL hR rR yJ hlay YG hrl Fc),.(by obtain⟨dx,fs,hp,l1,l2,l3,l4,l5⟩:=x.ob;obtain⟨as,xa,na⟩:=x.rw;obtain⟨bs,xb,nb⟩:=x.bk),.(by exact⟨_,rfl,_,rfl,L,_,_,i,rfl,rfl,f1,Jk (by rw[qa2,x.1];exact hi),⟨_,rfl,f2⟩⟩),.(by refine⟨?Z,?lB⟩;refine k p [] _ hp (?b7) Ab ?_),.(by have rul:ru.length=rows.length:=by have:=rR.length;ext D),∀(Cy:Has P w K mg ?f ?jY ?eN 3 (Fd K)),a,∀(Gm:Has P w K mg ?f ?iF ?jN 1 (Ky K)),a,.(by revert σ;refine TN ?_;intro W wu ws o5 o6 s2 hW WT rW hO hwl Fc),.(by have hi:i<sp.length:=?fE),.(by have hyl:?qJ:=by have:=r1.length;simp at this;omega),∀(Pm:Has P w K mg ?f "add_at" [?dF,?c4,?a6] 1 (Pf K)),a,∀(D6:Has P w K mg ?f ?jL ?fW 2 (Go K)),a,.(by refine TM ?_;intro ws o1 o2 o3 o4 o5 o6 o7 g Eo dd cA Fc),.(by revert σ;refine tQ ?_;intro ws o6 o7 hc2 dR dd cA hk Fc),.(by refine tN ?_;intro ws o2 o3 o4 o5 o6 o7 g Eo dd cA Fc),.(by refine(?uN g2.turn)),.(by have nN:∀a,?oS->¬N a:=fun a e z=>x.nn a z e),.(by rwa [show((?eS:Nat):Int)=q.1 by omega]at this),.(by exact fun k k1 k2=>Lat.blend_row_ne k1 k2 _ _ _ _),.(by have:¬c=i:=fun e=>z ?iP;simp[Lat.one,z,this]),.(by revert τ;refine nA ?_;intro hi1 s1 Er r1 o Fc),.(by exact ZK b _ (Ep e hp (by intro z;cases z)) e),.(by have hq2:Dy K H2 aw ?gV:=sH.seqT hq),.(by refine(?uX ta hT1)),.(by rintro i ys τ H1 hi ⟨as,hal,rfl,R,o,rfl⟩),.(by refine Nv (by ext hU) ?_),.(by refine bA (by ext hU) ?_),.(by obtain⟨_,_,rfl,rfl,_,_,rfl,rfl,rfl⟩:=rT),.(by refine(?uX L hL)),@(fun _ _ _ _=>?a),@(By P w K mg ?f En 1 f fd ?a (?b K)),@(By P w K mg ?f En 2 f fd ?a ?b),@(By P w K mg ?f En 3 f fd ?a ?b),@(fun i σ H2=>Qm fun ?fJ ?gK ?e1 ?h6=>B6 (σ=?a) ?bJ ?h7 ?gL),@(σ'=[?aW,?aI,iS j,iS A,iS B,?aG,iS ?a,iS c,?c (?d ?a5),?c (?d ?aS),rS ci,rS di]),@(Aa ?a (Aa ?b Ae)),@(σ'=[?aW,?aI,iS j,iS A,iS B,?aG,iS ?a,iS c,?c (?d ?a5),?c (?d ?aS),rS ci,none]),@(?c (?i ?a)),@(.of (?a _ _ ?b)),@(E4 fun o=>τ=?a),@(⟨_,rfl,?a,rfl,?b,?O⟩),@(Br (Fw (K:=K) qc9 qf7 qf6 Ej ?a (Aa ?b Ae))),@(fun i ys τ H1 _ hz=>by ext cQ;exact ?a),@(Bh ?a ?b Am ?s),@(?a (K:=K) ?b),@(Eg (K:=K) ?g ?a),@(fun σ' H'=>E4 fun(fam:Int)=>Ef (σ'=[?gT,?M,?f9,?U,none,none,none]) (?a=H') (fam<100)),@(?n ?a ?m),@(by show ?b0<?a;decide),@(⟨?a,_,rfl,?c0,rfl,_,_,rfl,_,_,rfl,rfl,?_⟩),@(Av (i:=3) ?a ?b),@(Av (i:=?a) ?aF ?b),@(key _ _ ?a),@(LX ?a Ah L O1 O2 ?l n n ?c7 ?b),@(⟨_,rfl,p,Aj,dx,_,rfl,?a,?dU,?b,O9m,?_⟩),@(upd (upd ?a p1 (?t [])) p2 (?t [])),@(⟨_,rfl,_,rfl,tI fc,?k4,?a,?u ?b,(by have:=Mb acc;omega),_,rfl,?_⟩),@(mkL (N:=?fM) hl1 R1 hl2 R2 ?a sN hfs wW (fun _ z=>z.elim)),@(upd H1 p (?t ?a)),@(At (i:=?a) ?bD),@(fun fr hc o e=>fr _ _ (?a _ hc).1 (?b _ hc).2.1 (s1 _ _ e)),@(fun σ' H'=>σ'=?a/\?b=H'),@(Av (i:=?a) ?bY ?b),@(?Q ?bU (?k D1) ?a),@(Dh (?a (?d7)).length),@(Cm ?e ?aN ?a),@(SX Ad H0 ?a p q M n W t cnt ?b),@(By P w K mg ?f En 4 f fd ?a ?b),@(Av (i:=4) ?a ?b),@(?t [?d sv,?d ?a]),@(Jp fun o1 o2=>τ=?a),@(Ea (K:=K) (n:=2) ?e (Bm (At (i:=3) ?a) (Bm ?b D9))),@(?h G2 (upd (upd G2 dl (.own ?a)) ?b (?T Ah dl []))),@(⟨_,rfl,ta,_,_,_,rfl,rfl,?a,rfl,rfl,_,rfl,?_⟩),@(fun k hk=>⟨mk ?a bo.2 hi hk,mk ?b bo.2 hj hk⟩),@(Aa (pv ?a) (Aa ?b ?hD)),@(fun k hk=>⟨mk ?a ?cY hi hk,mk ?b ?cY hj hk⟩),@(?a1 K H1 ys ((?a ?b).map tI)),@(upd H5 ?a (?T Aj dx (?Q ?gH (?k nm) fs4))),@(upd (upd G3 BJ (.own L)) ?a (?T Ah BJ [])),@(H ?a=none),@(Av (i:=?a) ?b (Dr (E3 (K:=K)) ?e ?cG Dc ?V)),@(?h H2 (upd H2 ?a ?b)),@(by unfold Ax;rw[?fV,?gA,?R h5,?a h7]),@((?dE+?a)=((i+?b:Nat):Int)),@((?a).map tI),@(by obtain⟨g,_⟩:=hz;exact ?g5 ?a),@(∀{G:Hp}{c:Addr},?iB->c∈?a->?o5),@(e9 ((?c2).map ?w) ?a=?c (?d (?gU ?b 0))),@(.of (kb ?a mdj _ (xb.2.2 _ _ rdj))),@(.of (kb ?a mdi _ (xb.2.2 _ _ rdi))),@(?a (K:=K) ?e ?gN ?b),@(⟨_,rfl,_,_,d,rfl,?a,hx,_,rfl,?_⟩),@(⟨_,rfl,Eo,?a0,?a hD,Ab,?_,_,rfl⟩),@(⟨?b5,Ab,?a,?l,rfl⟩),@(upd H ?a (?i ?b)),@(aQ (K:=K) ?e ?k7 ?a),@((?i4&&?I (Dh (?d7).length=l))=?a),@(∀a,?a a=none->?b),@(?a ?b (upd H1 L (?i (?i6 i (?k D))))),@(At (i:=?a) ?aL),@((?a).turn hD),@(?a (by rw[?aO,Rl];simp[h2]) ?_),@(⟨_,rfl,?a,_,_,_,rfl,rfl,?b,rfl,?_⟩),@(⟨_,_,_,w++?a,rfl,?j3,?dC,?oQ⟩),@((?m0 ?a).foldl (lift1 ?eP) lg),@(show(?a).all id=true by simp),@(J7 (Bd ?H ?g ?a ?z) (J8 ?r ?b Fe)),@(Bd ?H (Bd ?H ?W ?a ?z) ?J ?z),@(Ap ((UZ.trans s4) _ _ ?a) nE),@((?a ?b).turn hD),@(⟨_,(Ak (Be ?a)),?_⟩),@(Ea (K:=K) (n:=2) ?e (Bm ?a (Bm ?b D9))),@(Cj (?t9 E5 ?a) (Ak ?b) Bu),@(qw5 ?a ?S ?_),@(Aq ?a hr ?b),@(?c (?d ?a)),@((?c1 ?a).trans ?aD),@(?a K Ah Ad Aj),@(fun i ys τ H1=>B6 ?b1 ?aV (ys=(?cS i true).map V.bl) ?a),@(Bd ?cI ?a Am ?z),@(fun i ys τ H1=>Ed (i<=w.length) ?b1 ?aV ?a ?b),@(H9 ?a=?t3 (VI W (?h0 s.1 i j a c ?a5 ?aS ?b))),@(VI n (?h0 s.2 i j ?aS (-?a5) (-c) a ?a)),@(⟨_,rfl,_,_,rfl,rfl,(?tE ?a),?_⟩),@(s2 _ _ ?a),@(Ht (Gw (Bb ?dM ?cR B4 (?t1 ?a ?b)))),@(below ws fam [] ?a),@(⟨_,rfl,?a,rfl,?b,?_⟩),@(⟨_,.of ?a⟩),@(At (i:=?a) ?b),@(Ak (Be ?a)),@(Bb ?bX ?bK qh1 ?a),@(Bb ?dM ?cR B4 (?t1 ?g ?a)),@(Bd ?H ?a ?b ?z),@([?gW,?U,?cJ,?vA ?a,?b,?aC,o]),@(H' ?a=?t3 ?b),@(Bp ?a ?g Am),@(Cn qb9 rfl (?tA Ca ?a) (?uU 7) (Ak ?b)),@(fun i ys τ H1=>B6 ?b1 ?aV ?a (?t5 ?b)),@(Bh E5 ?a ?b ?s),@(J7 (?v9 Hw (Aa ?a ?b)) (J8 ?W ?r Fe)),@(Aa ?a Ae),@(Ea (K:=K) (n:=2) ?e (Bm (?vO 0 ?a) (Bm (?vO 1 ?b) D9))),@(Gy (v:=.ty ?dK) rfl ?cG ?a rfl),@(Bp Ei Am (Bp J9 (?vV V8) ?a)),@(?a (K:=K)),@(?a (Bb (?tA M9 ?e) ?iX Ps (?w0 ?b))),@(Ak (Cj ?a (Ak ?b) Bu)),@(J7 (?v9 Hw (Aa ?a ?b)) (J8 ?W ?j Fe)),@(Cj (?a ?b) ?dZ Bu)])
noncomputable abbrev Hs:Stmt:=top 30
theorem R8:?o ?h9 ?h9 (Au Hs):=Bf
theorem Si[?q](F:Ew K ?rN ?rN Hs f fd)[?p] :?sW ?h9 HD:=by
 refine ?tD R8;obtain⟨v,xs,rfl,hL,hx,k⟩:=h;obtain⟨P7,c9⟩:=T.x_MOST_PIECES;obtain⟨a,us,rfl,hq,r⟩:=?fC;have hl:?mA:=?hG
 refine(?v5 (K8 (?vR (?w2 Dc)) (M0 (M1 HQ ?bQ (Jj (v:=?d 40) ?e c9 ?iL) ?s))));refine⟨_,rfl,?h1,?dK,_,rfl,?iH,hL,_,rfl,?_⟩;refine bA ?e ?_;refine⟨_,rfl,a,_,rfl,?dN,_,_,rfl,rfl,?_⟩;show Q (.bl (?I (?m9<=40))) H;rw[qg3 ?eA];exact k
noncomputable abbrev W6:Stmt:=top 40
theorem JH:?o ?hB ?hB (Au W6):=Bf
theorem JN[?q](F:Ew K ?kT ?kT W6 f fd)[?p] :?sW ?hB i7:=by
 refine ?tD JH;obtain⟨v,h,w,j,f,rfl,hv,hh,hj,k⟩:=h;obtain⟨a,us,rfl,hq,X6,Nb⟩:=?eT;refine(?v5 (B5 (N':=[?aU,"j"]) (cap:=?fR) ?e ?A ?bH (?sV (?vO 0 vX)) ?L (?sV ?fT)));ext eZ
 let Pq5:?F:=?vX (ys=VI i (fun i=>f i j)) [o,iS j]
 refine Cr (K:=K) (a:=a) (xs:=us) Pq5
  ?aK (?t8 ?dI) ?_ ?_
 . ext dP;ext a3;ext f2;ext lR;refine⟨_,rfl,_,rfl,b,_,_,_,rfl,rfl,?iT,Ah2 hj,?_⟩;refine⟨Er,?gP,?eF,Ab,?_,_,rfl⟩;rw[Tb]
 . ext f1;rw[X6]at Er;exact ?i5
noncomputable abbrev Tq:Stmt:=top 42
theorem EX:?o ?g3 ?g3 (Au Tq):=Bf
theorem FG[?q](F:Ew K ?iZ ?iZ Tq f fd)[?p] :?sW ?g3 Wp:=by
 refine ?tD EX;obtain⟨n,i,rfl,hn,k⟩:=h;refine(?v5 (B5 (N':=["j","i"]) (cap:=?fR) ?e ?A (?tV ?V) (?sV (?vO 0 vW)) ?L (?sV (Sd (?vY ?g ?j) Am Am))));ext hS
 let Pq6:?F:=fun j ys τ H1=>B6 ?b1 ?aV (ys=VI j (?pP)) (?t5 [o,?aI])
 refine Il Pq6
  ?aK ?_ ?_
 . rintro j ys τ H1 hj Du;ext a3;ext f2;ext lQ;have sz:(VI j ?pP).length<sizeLine:=?gP;ext a8
   . have e0:?cV=?b8:=?C
     have e:j=i:=O9m
     refine ?pC;rw[Tb,?R e]
   . have e0:¬?cV=?b8:=?C
     have e:¬j=i:=O9m
     refine ?pC;rw[Tb,?N e]
 . ext f1;rw[qf5]at Er;exact ?i5
noncomputable abbrev aN:Stmt:=top 44
theorem lV:?o ?hF ?hF (Au aN):=Bf
theorem mL[?q](F:Ew K ?kX ?kX aN f fd)[?p] :?sW ?hF Ru:=by
 refine ?tD lV;obtain⟨a,b,x,y,n,p,q,rfl,hx,hy,hn,hm,k⟩:=h;refine(?v5 (B5 (N':=["left","right","a","b"]) (cap:=[none,none,?gI,?h3]) ?e ?A (?uQ (Aa ?j ?hA)) (?sV (?w1 MR MR)) ?L (?sV (Bp Ei (Bp op_mulX ?r ?g) (Bp op_mulX ?y ?j)))));refine⟨_,rfl,_,rfl,x,y,rfl,⟨_,hx⟩,⟨_,hy⟩,?O⟩
 refine aA (K:=K) (a:=x) (b:=y) (xs:=VI n p) (ys:=VI n q) (n:=n) (by rw[Bq,Bq,qt3]) (fun i zs τ H1=>B6 ?b1 (H1 D=?f7) (zs=VI i (fun j=>a*p j+b*q j)) (?u0 [o1,o2,iS a,iS b]))
  ⟨?b5,Ab,rfl,?l,?l,rfl⟩ (fun i zs τ H1 _ hz=>by ext cQ;exact⟨?bA hx,?bA hy⟩) ?_ ?_
 . rintro i u v zs τ H1 pr hu hv Du hp;revert τ;refine tM ?_;intro s1 Er hz1 o1 o2 Fc;subst hz1;obtain⟨hi,rfl⟩:=Ur hu;obtain⟨_,rfl⟩:=Ur hv;have sp:?h H1 (upd H1 pr (?t [?d (p i),?d (q i)])):=?b7;ext lM;refine⟨_,rfl,_,rfl,_,_,rfl,rfl,(hm i hi).1,_,rfl,_,rfl,_,_,rfl,rfl,(hm i hi).2,_,_,rfl,rfl,?_⟩;refine⟨?mC,?gP,?uV ?eH,Ab,?_,_,_,rfl⟩;rw[Tb]
 . rintro zs τ H1 ⟨s1,Er,rfl,_⟩;exact ?i5
noncomputable abbrev Mo:Stmt:=top 50
theorem Zn:?o ?iK ?iK (Au Mo):=Bf
theorem Zt[?q](F:Ew K ?q7 ?q7 Mo f fd)[?p] :?sW ?iK P8:=by
 refine ?tD Zn;obtain⟨a,b,sp,ms,rfl,IC,hb,hl,kq⟩:=h;have dQ:=hr.u8;refine(?v5 (B5 (N':=[?c4,?dF]) (cap:=?fR) ?e ?A ?bH (?sV (?vO 0 VU)) ?L (?sV (cV (u1 dQ) ?j ?g Am ⟨?eO,?eO,?eO,?eO⟩))));refine(?t6 a ⟨_,IC⟩)
 let Pq7:?F:=fun i ys τ G=>B6 ?d4 (G D=?bO) (ys=((sp.take i).map (Cz ms)).map ?w) (?t5 [o,?cZ])
 refine Cr (K:=K) (a:=a) (xs:=?pX) Pq7
  ?aK (fun i ys τ G _ hz=>?uG IC) ?_ ?_
 . rintro i x ys τ G hx Du;ext a3;intro g Eo hys o Fc;ext sA
   have hxv:x=?d sp[i]:=by
    rw[qa9,?bF]at hx;ext f6
   subst hxv;have tW:=PU g hb;refine⟨_,rfl,b,rfl,?u ⟨_,tW⟩,_,rfl,_,iG tW,?_⟩;rw[iL];refine⟨Eo,?c6 (by rw[hys,qa2,qa2,qc4];omega),g.turn hD,Ab,?_,_,rfl⟩;rw[qg0,?bF,qb1,qb1,hys];rfl
 . rintro ys τ G ⟨g,Eo,hys,_⟩;rw[qa2,qd9]at hys;refine kq D G hD g ?_;rw[Eo,hys]
noncomputable abbrev W9:Stmt:=top 54
theorem jI:?o ?gY ?gY (Au W9):=Bf
theorem jP[?q](F:Ew K ?l9 ?l9 W9 f fd)[?p] :?sW ?gY j3:=by
 refine ?tD jI;obtain⟨u,t,rfl,hu,k⟩:=h
 refine⟨_,(Af (Cj (?vY ?eK Mz) (?vP (D5 (Aa Mz (Aa ?eK (?t1 ?eK (Lx Hm ?eK)))))) Bu)
  (?vP ?g)),?_⟩
 ext G
 cases t with
 | ad i j n =>
   ext s1;refine ?lW;refine ?rH;refine⟨_,rfl,ta,_,_,_,rfl,rfl,hT,rfl,_,rfl,ta,_,_,_,rfl,rfl,hT,rfl,_,rfl,ta,_,_,_,rfl,rfl,hT,rfl,_,rfl,?aX,?iQ⟩;exact k _ _ (?l1) ?pI
 | mi i =>
   obtain⟨ta,vs,rfl,hT,rT⟩:=id hu;ext sT;ext rY
 | sw i j =>
   obtain⟨ta,vs,rfl,hT,rT⟩:=id hu;obtain⟨_,_,rfl,rfl,_,_,rfl,rfl,_,_,rfl,rfl,rfl⟩:=rT;ext rY
noncomputable abbrev Eh:Stmt:=Eb (top 55) 0
theorem Vo:?o ?bN ?bN (Au Eh):=Bf
theorem Nu[?q](F:Ew K ?hE "Lines.__init__" Eh f fd)[?p] :By P w K mg ?f En 1 f fd ?bN (?vC Lp):=by
 refine ?tD Vo;obtain⟨p,dx,C,r,b,rfl,hC,hp,k⟩:=h
 have hc:?jB:=by
  rcases hC with rfl | rfl
  . ext lL
  . ext lJ
 refine⟨_,(Af (?tB ?j)
  (Ak (?tB ?r))),?_⟩
 ext G
 refine⟨_,rfl,_,rfl,p,C,dx,_,rfl,hp,?P,?bM,?cK,?_⟩;refine⟨_,rfl,_,rfl,p,C,dx,_,rfl,Ab,?P,?bB,?nF,?_⟩;exact k _ _ rfl rfl
noncomputable abbrev Qv:Stmt:=top 59
theorem Oa:?o [?aU,"at"] [?aU] (Au Qv):=Bf
theorem cY[?q](F:Ew K ?oR ?oR Qv f fd)[?p] :?sW [?aU] Rz:=by
 refine ?tD Oa;obtain⟨c,W,st,u,rfl,hq,hb,hW,k⟩:=h;obtain⟨b1,b2,b3⟩:=hb
 refine⟨_,(Af (Av (i:=1) Oa.nd Am)
  (Af (Sa qb9 (?t9 E5 ?fT) (Ak (Av (i:=1) Oa.nd (Bp Ei ?j Am))))
  (?vP ?j))),?_⟩
 ext G
 refine Gh (?tR [rS c,?c (?d (0:Nat))] H) ?_ ?jI;ext f4;refine ?v8 (?tR [rS c,?c (?d (st:Int))] H)
 . refine⟨fun m σ G=>E4 fun(j:Nat)=>B6 (σ=[rS c,?vA ?d9]) (H=G) (j<=st) (m=st-j),⟨_,0,rfl,rfl,?Z,rfl⟩,?_⟩;rintro m σ _ Du;refine QW ?_;intro _;obtain⟨j,rfl,rfl,hj,rfl⟩:=Du;refine⟨_,rfl,_,rfl,c,_,_,_,rfl,rfl,hq,Bl (Ch O9m),rfl,_,rfl,?_⟩;ext a8
   . have h0:u j=0:=?C
     have hlt:j<st:=Nat.lt_of_le_of_ne hj fun z=>b2 (z▸h0);refine⟨fun σ' G'=>E4 fun(j':Nat)=>Ef (σ'=[rS c,?c (?d (j':Int))]) (H=G') (j'=j+1),?_,?_⟩
     . rintro σ' G' ⟨j',rfl,rfl,rfl⟩;exact⟨st-?eL,O9m,j+1,rfl,rfl,hlt,rfl⟩
     . exact⟨_,rfl,_,_,rfl,rfl,j+1,rfl,rfl,rfl⟩
   . have h0:¬u j=0:=?C
     have hlt:j=st:=by
      rcases qg5 j st with h | h
      . exact ?jP (b1 j h) h0
      . omega
     subst hlt;exact ?o3
 ext f4;exact⟨_,rfl,k⟩
noncomputable abbrev Kz:Stmt:=top 64
theorem Jz:?o [?aB,"i",?aU] [?aB] (Au Kz):=Bf
theorem Xh[?q](F:Ew K ?rM ?rM Kz f fd)[?p] :?sW [?aB] Nq:=by
 refine ?tD Jz;obtain⟨v,n,w,M,rfl,hv,hn,hw,k1,k2⟩:=h;obtain⟨ta,us,rfl,hq,X6,Nb⟩:=?eT
 refine⟨_,(Af (Cn qb9 rfl (?uL Sc ?V) (?v6 (?vO 1 Jz.nd) (?vO 2 Jz.nd)) (Ak (?w8 Gw (Bb (?tA X2 ?e) T.n_any aB (?w0 (B5 (N':=["j",?a6,"i"]) (cap:=?qL) ?e ?A (?uL Sc ?b9) (?sV (?v6 (?vO 0 mQ) (?vO 1 mQ))) (?sV (My (Bh Lz ?g ?r ?s))) (?sV (M1 Lz ?j Am ?s))))))))
  ?dZ),?_⟩
 ext G
 refine ?v8 (fun σ' H'=>Jp fun o1 o2=>Ef (σ'=?pQ) ?d3 (?nK n w M))
 . refine(?vM ta ⟨us,hq⟩)
   let Pq8:?fQ:=fun i σ G=>Jp fun o1 o2=>Ef (σ=?pQ) ?d4 (?nK i w M)
   refine Yh (K:=K) (a:=ta) (xs:=us) Pq8
    ⟨?l,?l,rfl,?fG H,fun i j hi=>O9m⟩ (fun i σ G _ hz=>by obtain⟨_,_,_,s1,_⟩:=hz;exact ?dI) ?_ ?_
   . rintro i v σ G p hv Du hp
     ext Y
     revert σ;refine tS ?_;intro o1 o2 s1 hS Fc;obtain⟨hi,b,rfl,hb⟩:=Nb i v hv;have sp:?h G (?n8):=?b7;ext hR;generalize ?n8=G1 at sp;have s2:=?eH;refine(?t6 b ⟨_,?dX hb⟩)
     let Pq9:?F:=fun j zs τ G2=>E4 fun(bs:List Bool)=>Nm (zs=bs.map V.bl) (bs.length<=j) ((?kD↔∃c,c<j/\c≠i/\M i c≠0)) (?h G1 G2) (G2 D=?f7) (j<=w) (?u0 [o1,o2,?vA ?b8])
     refine AA (K:=K) (a:=b) (xs:=VI w (M i)) Pq9
      ⟨[],rfl,qa1 _,⟨fun z=>?rG,fun⟨c,hc,_⟩=>O9m⟩,?b5,Ab,?Z,?l,?l,rfl⟩ (fun j zs τ G2 _ hz=>by obtain⟨_,_,_,_,g,_⟩:=hz;exact ?g5 (?dX hb)) ?_ ?_
     . rintro j y zs τ G2 pr hy ⟨bs,rfl,hbl,hiff,g,Eo,hj,q1,q2,rfl⟩ hpr;obtain⟨yH,rfl⟩:=Ur hy;have gp:?h G2 (?r0):=?v hpr;ext lM;generalize ?r0=G3 at gp;ext lQ;ext a8
       . have hji:j≠i:=by
          have:¬((j:Nat):Int)=?b8:=?C
          omega
         refine⟨_,rfl,rfl,?g7,?k5,bs++[!(?I (M i j=0))],?_,?lZ,?_,?uV ?kA,Ab,yH,_,_,rfl⟩
         . rw[qb1]
           congr 1
           by_cases z:M i j=0<;>simp[z]
         . rw[List.any_append,qq1,hiff];constructor
           . rintro (⟨c,h1,h2,h3⟩ | h)
             . exact ?oZ
             . exact⟨j,O9m,hji,by simpa using h⟩
           . rintro ⟨c,h1,h2,h3⟩;rcases qg5 c j with h | h
             . exact ?u ⟨c,h,h2,h3⟩
             . have:c=j:=O9m
               subst this;exact ?x (?i7)
       . have hji:j=i:=by
          have:((j:Nat):Int)=?b8:=?C
          omega
         refine⟨bs,rfl,O9m,hiff.trans ⟨fun⟨c,h1,h2⟩=>⟨c,O9m,h2⟩,fun⟨c,h1,h2,h3⟩=>?oZ⟩,?kA,?g7,yH,_,_,rfl⟩
     . rintro zs τ G2 ⟨bs,rfl,_,hiff,g,Eo,_⟩;rw[Bq]at hiff;refine⟨D,bs,rfl,.of Eo,_,rfl,?_⟩;ext a8
       . have h2:?kD:=?C
         obtain⟨c,c1,c2,c3⟩:=hiff.mp h2;exact k2 (fun z=>c3 (z i c hi c1 fun e=>c2 ?iP)) _ (?a2 g)
       . have h2:¬?kD:=?C
         refine⟨_,_,rfl,?a2 g,fun x c hx hc hne=>?_⟩;rcases qg5 x i with h | h
         . exact hS x c h hc hne
         . have:x=i:=O9m
           subst this;exact qg2 fun z=>h2 (hiff.mpr ⟨c,hc,fun e=>hne ?iP,z⟩)
   . ext f3;refine tS ?_;intro o1 o2 s1 hS Fc;rw[X6]at hS;exact ?tI ⟨_,_,rfl,s1,hS⟩
 refine SN fun o1 o2 G s1 hS=>?_;intro sq;exact k1 hS _ s1
noncomputable abbrev Mu:Stmt:=Eb (top 69) 1
theorem Zp:?o [?aP] [?aP] (Au Mu):=Bf
theorem Zy[?q](F:Ew K ?aQ "Book.shape" Mu f fd)[?p] :By P w K mg ?f En 1 f fd [?aP] (j6 K Aw):=by
 refine ?tD Zp;obtain⟨p,B,xs,ls,rfl,bk,sB,kq⟩:=h;obtain⟨dx,P,Lv,Lf,lu,wu,hp,hP,_⟩:=bk.ob;obtain⟨_,us,z,hq,r⟩:=id hP;refine(?v5 (Dr (?w4 E3) ?e ?cG Dc (?w0 ?W)));cases z;exact⟨_,rfl,p,Aw,dx,_,_,rfl,sB _ _ hp,T.cl_Book,T.na_Book_pieces,rfl,P,us,rfl,?u (sB.seq hq),fun D hD=>kq D us hD r⟩
noncomputable abbrev Gr:Stmt:=top 70
theorem Qt:?o ["parts"] ["parts"] (Au Gr):=Bf
theorem Q9[?q](F:Ew K ?mI ?mI Gr f fd)[?p] :?sW ["parts"] Jw:=by
 refine ?tD Qt;obtain⟨a,us,ps,rfl,ha,rU,hpl,kq⟩:=h;refine(?v5 (B5 (N':=["part"]) (cap:=?eC) ?e ?A ?bH (?sV (?vO 0 VT)) (?sV (My (Bh Lz ?eK Am ?s))) (?sV ?g)));refine(?t6 a (?vN ha));have ul:=rU.len
 let A67:?F:=fun i ys τ G=>B6 ?d4 (G D=?bO) (Bz G ys (V9 (?d6 i))) ?e4
 refine Pr (K:=K) (a:=a) (xs:=us) A67
  (?uO trivial) (fun i ys τ G _ hz=>by obtain⟨h1,_⟩:=hz;exact ?t4 h1 ha) ?_ ?_
 . rintro i v ys τ G hv Du;ext a3;intro h1 Eo rY o Fc;have hi:=?e3;obtain⟨p,hp,pv⟩:=rU.get hv;have pv1:=pv.same h1;obtain⟨t,c1,c2,c3,rfl,et,_⟩:=id pv1;have KI:?d6 ?aR=?d6 i++[p]:=by rw[qg0,hp];rfl
   have yl:ys.length<=1000:=by
    have h2:=rY.len;have h3:=qg6 (fun p:Bv=>?I (p.1≠1)) (?d6 i);rw[qc4]at h3;unfold V9 at h2;omega
   refine⟨_,rfl,t,_,_,_,rfl,rfl,.of et,rfl,rfl,_,rfl,?_⟩;ext f0
   . have NK:¬?h4:=?aE
     refine(?uN h1.turn);rw[KI,DH,?N NK];exact Bz.snoc (Bz.put Eo rY) (pv1.put Eo)
   . have NK:?h4:=?aE
     refine⟨h1,Eo,?_,_,rfl⟩;rw[KI,DH,?R NK];exact rY
 . rintro ys τ G ⟨h1,Eo,rY,_⟩;rw[ul,qd9]at rY;exact kq D ys G hD h1 Eo rY
noncomputable abbrev Tt:Stmt:=top 74
theorem eZ:?o ["_law_found"] ["_law_found"] (Au Tt):=Bf
theorem FI[?q](F:Ew K ?nT ?nT Tt f fd)[?p] :?sW ["_law_found"] Ws:=by
 refine ?tD eZ;obtain⟨x,d,rfl,hx,k⟩:=h;refine(?v5 (K8 (?vR (Gy (v:=.ty "int") rfl T.n_int boot_intT rfl)) (M0 (mF (?vR (Gy (v:=.ty "bool") rfl T.n_bool Yz rfl))))));refine(?uM ?gF);ext hT
 . refine(?uM ?nG);have e2:Jv d=!iB "bool" d:=by unfold Jv;rw[e];rfl
   ext dT
 . have e2:Jv d=false:=by unfold Jv;simp[e]
   ext dT
noncomputable abbrev Oi:Stmt:=top 75
theorem aM:?o ?lC ?lC (Au Oi):=Bf
theorem aT[?q](F:Ew K ?r4 ?r4 Oi f fd)[?p] :?sW ?lC Ry:=by
 refine ?tD aM;obtain⟨a,ns,k,rfl,hS,h0,hl,kq⟩:=h
 refine⟨_,(Af (Cj (Bh Sf ?j ?bQ ?s) (?vP ?fT) Bu)
  (?vP Am)),?_⟩
 ext G
 refine⟨_,rfl,_,rfl,a,_,rfl,?u hS,_,_,rfl,rfl,_,rfl,?_⟩;ext a8
 . have h2:k<(ns.length:Int):=?C
   have e:e9 (?i8) k=?vA (Yu ns k):=by
    obtain⟨j,rfl⟩:=qs3 h0;refine Bl ?_;have hj:?rB:=O9m
    rw[qa9,?kU];simp[Yu,hj]
   exact⟨_,rfl,_,rfl,a,_,k,_,rfl,rfl,hS,e,kq⟩
 . have h2:¬k<(ns.length:Int):=?C
   have e:Yu ns k=0:=by
    unfold Yu;have:ns.length<=k.toNat:=O9m
    simp[this]
   rw[e]at kq;exact kq
noncomputable abbrev Mt:Stmt:=top 76
theorem Ia:?o [?c5,?bE,?pG,"_law_faces",?rT] ?jN (Au Mt):=Bf
theorem Zx[?q](F:Ew K ?iF ?iF Mt f fd)[?p] :?sW ?jN Ky:=by
 refine ?tD Ia;obtain⟨v,w,fam,rfl,hv,hw,k⟩:=h;obtain⟨aw,rfl,hq⟩:=hv.sq;have hlen:(?iG).length=w.length:=qa2 ..;have wO:w.length<=4:=by rcases hw with z | z | z<;>omega
 refine⟨_,(Af (Av (i:=2) Ia.nd ?bQ)
  (Af (Cj (?t9 E5 ?j) (Af (Cj (?t9 Sf ?r) (?vP ?cM) Bu)
  (Ak (Be (B5 (N':=[?rT,?c5]) (cap:=?iE) ?e ?A (?tV ?b9) (?sV (?vO 0 VR)) ?L (?sV (Bp ?g4 (Ex ?cU ?j Gx (Fj ?g)) (Ex ?cU ?j (Fj (?vV Ei)) Gx))))))) Bu)
  (Af (?v7 ?r (Be ?cM))
  (Af (Cj (?t9 Sf ?j) (Af (?v7 ?r (Be (Gd (?t1 ?fO ?fO))))
  (Ak (Be (B5 (N':=["_law_letter"]) (cap:=?eC) ?e ?A (?tA Wc ?g) (?sV (?vO 0 vS)) ?L (?sV (D5 ?V)))))) Bu)
  (Af (?tG Ia.nd (Gd (?w0 (Ex ?cU ?g (Fj Am) Gx))))
  (Af (Cn qb9 rfl (?tV (?w0 (Bp K9 ?r Am))) (?vO 4 Ia.nd) (Ak (?t7 ?y (Bp ?g4 (Bp ?g4 (Ex ?cU ?g Gx (Fj ?J)) (D5 (?w0 (Bp J9 (Bp Ei (Bd ?cI ?g ?J ?z) (Bd ?cI ?g (Bp Ei ?J Am) ?z)) ?j)))) (Ex ?cU ?g (Fj (Bp Ei ?J Am)) Gx)))))
  (Af (?t7 ?y (Ex ?cU ?g Gx (Fj (Bp K9 ?r Am))))
  (?vP ?y)))))))),?_⟩
 ext G
 refine⟨_,rfl,aw,_,rfl,?x hq,?_⟩;rw[hlen];ext a9;ext a8
 . have hf:?eJ:=?C
   subst hf;ext a7;ext f0
   . have h3:w.length<2:=by have:?c8<2:=?aE
                            omega
     ext s5;have e:Ax w 0=[]:=by unfold Ax;rw[?aO,?R h3]
     rw[e];rfl
   . have h3:¬w.length<2:=by have:¬?c8<2:=?aE
                             omega
     have e:Ax w 0=(?gC ?qF).map ?jM:=by unfold Ax;rw[?aO,?gA]
     rw[e]at k;ext hS
     let A66:?F:=?vF (?u7 ?kY ?jM) (?t5 [o,rS aw])
     refine Il A66
      ?qX ?_ ?_
     . rintro i ys τ H1 hi Du;ext sM;have hi2:?jH:=?r8
       have hq1:Dy K H1 aw ?gV:=?k8;refine⟨_,rfl,_,rfl,_,rfl,aw,_,rfl,hq1,?_,fun p1 H2 s2 q2=>?_⟩
       . ext lU;rw[?m7,HT.sIx_nat]at z;omega
       refine⟨_,rfl,_,rfl,_,_,rfl,rfl,_,rfl,aw,_,rfl,s2.seqT hq1,?_,fun p2 H3 s3 q3=>?_⟩
       . ext lV;rw[?mM,HT.sIx_nat]at z;omega
       rw[?m7,S6]at q2;rw[?mM,O7]at q3;refine⟨p1,p2,_,_,rfl,rfl,s3.seqT q2,q3,?_,fun p H4 s4 q4=>?_⟩
       . refine B9 ?_;simp only[qc4,qi5,qa2];omega
       have HH:?h H1 H4:=?j3;have CA:H4 D=?bO:=HH _ _ Er
       have t4:TI K H4 (?k p) (?qN):=by
        refine ?dC;rw[qb1,qp5,qp6];exact q4
       have r4:?a1 K H4 ys ((?kY ?jM).map tI):=?X HH r1;have hyl:?qJ:=by have:=r1.length;ext D
       refine⟨CA,?a0,O9m,?v4 ?eU HH,Ab,?_,_,rfl⟩;rw[qk6,qb1];exact ?r7
     . rintro ys τ H1 ⟨_,s1,Er,r1,_⟩;rw[show(?c8).toNat=w.length by omega]at r1;exact ?o4
 . have hf:¬?eJ:=?C
   ext a9;ext f0
   . have h3:?qD:=?aE
     ext s5;have e:?bR=[]:=by unfold Ax;rw[?fV,?R h3]
     rw[e];rfl
   have h3:¬?qD:=?aE
   ext a7;refine ?mB
   . have h5:?fS:=?iJ
     ext a9;refine ?bC (fun h6=>?_) (fun h6=>?_)
     . have h7:?mS:=by
        have:?c8=1:=?pM
        omega
       have e:?bR=[[],[]]:=?uD ?R
       rw[e]at k;refine⟨?Z,fun p1 hp1=>⟨?Z,fun p2 hp2=>⟨?aX,?lB⟩⟩⟩;have s1:?h H (upd H p1 (?t [])):=?v hp1;have s2:?h (upd H p1 (?t [])) (?tL H):=?v hp2;have s3:?h (?tL H) (upd (?tL H) p (?i [?e6,?k p2])):=?b7;have hp0:?uA p:=(?bT).free hp;refine k p _ _ hp0 ((?bT).trans s3) Ab ?_;have t1:TI K _ (?e6) []:=?eY (?t4 s3 (?nH));have t2:TI K _ (?k p2) []:=?eY (?t4 s3 Ab);exact⟨_,_,rfl,t1,_,_,rfl,t2,rfl⟩
     . have h7:¬?mS:=by
        have:¬?c8=1:=?pM
        omega
       have e:?bR=w.map ?gB:=?uD ?N
       rw[e]at k;refine(?t6 aw ?kO)
       let A65:?F:=?vF (?u7 ?pL ?gB) ?e4
       refine Uo (xs:=?iG) A65
        ?qX (fun i ys τ H1 _ hz=>by obtain⟨_,s1,_⟩:=hz;exact ?k8) ?_ ?_
       . ext dP;ext sM;have hi2:?jH:=?fE
         have hx2:x=?l8:=by
          rw[qa9,qa0 hi2]at hx;ext f6
         subst hx2;refine⟨_,rfl,?aX,?lB⟩;have s2:?h H1 (?tO [?l8]):=?b7;have CA:=?nS;have t4:TI K (?tO [?l8]) (?k p) [w[i]]:=?l7;have r4:=?X s2 r1;ext sB
         refine⟨CA,?a0,O9m,?uV ?bT,Ab,?_,_,rfl⟩
         have e2:(?dY ?aR).map (?gB)=?pL (?gB)++[[w[i]]]:=by
          rw[qg0,qa0 hi2,qb1];rfl
         rw[e2];exact ?r7
       . rintro ys τ H1 ⟨_,s1,Er,r1,_⟩;rw[hlen,qd9]at r1;exact ?o4
   have h5:¬?fS:=?iJ
   have hpos:0<fam:=O9m
   have e:?bR=?fZ::((?gC (?f8)).map ?l3)++[?o0]:=by
    unfold Ax;rw[?fV,?gA,?N h5]
   rw[e]at k;refine⟨_,rfl,_,rfl,aw,_,rfl,hq,?_,fun p1 H1 s1 q1=>⟨?aX,?O⟩⟩
   . ext lV;rw[?mN,HT.sIx_nat]at z;omega
   rw[?mN,O7]at q1;have RJ:?hJ:=?kI hD;have s2:?h H1 (upd H1 D (?i [?e6])):=?b5
   have t1:TI K (upd H1 D (?i [?e6])) (?e6) (?fZ):=by
    refine ?dC;rw[qp6];exact s2.seqT q1
   have hn:?rW=?f8:=O9m
   refine⟨_,rfl,_,_,rfl,rfl,_,rfl,O9m,O9m,Cs (lo:=0) (n:=?rW)
    (fun i σ H2=>Jp fun(ys:?cE) ?e1=>B6 (σ=[rS aw,?U,?vA ?qF,?d2,o]) ?bJ (H2 D=?bO) (?a1 K H2 ys (?uF ?qY)))
    ⟨_,?l,rfl,?bT,Ab,⟨_,_,rfl,t1,rfl⟩⟩ ?_ ?_⟩
   . ext dS
     ext Y
     ext dR;intro ys o sH Su r2 Fc;rw[hn]at hi;ext sO;have c0:?mU:=O9m
     have c1:?uE 1 1:=O9m
     have c2:?uE 2 2:=O9m
     have at0:e9 ?gV (?dE)=?vA (w.getD i 0):=by
      rw[c0];refine Bl ?_;rw[qa9,qa0 ?eA];simp[show ?jH by omega]
     have yN:e9 ?gV (?dE+1)=?vA (?jR):=by
      rw[c1];refine Bl ?_;rw[qa9,qa0 ?eA];simp[show i+1<w.length by omega]
     refine⟨_,rfl,?u ⟨rfl,_,SqL.of Su⟩,?_⟩;refine⟨_,rfl,_,rfl,_,rfl,aw,_,rfl,hq2,?_,?p0⟩
     . ext lU;rw[c0,HT.sIx_nat]at z;omega
     rw[c0,S6]at qa;refine⟨_,rfl,_,rfl,aw,_,_,_,rfl,rfl,?oN,at0,_,rfl,_,rfl,_,_,rfl,rfl,aw,_,_,_,rfl,rfl,?oN,yN,_,_,rfl,rfl,_,rfl,_,_,rfl,rfl,hpos,?aX,fun pb hb=>?_⟩;have sb:?h Ha (upd Ha pb (?t [?d ((w.getD i 0+?jR)%fam)])):=?v hb;refine⟨pa,pb,_,_,rfl,rfl,sb.seqT qa,?c0,?gD,fun pc Hc sc qc=>?_⟩;have sac:=(sa.trans sb).trans sc;refine⟨_,rfl,_,rfl,_,_,rfl,rfl,_,rfl,aw,_,rfl,sac.seqT hq2,?_,fun pd Hd sd qd=>?_⟩
     . ext lV;rw[c2,HT.sIx_nat]at z;omega
     rw[c2,O7]at qd;refine⟨pc,pd,_,_,rfl,rfl,sd.seqT qc,qd,?gD,fun pe He se qe=>?_⟩;have lW:=(sac.trans sd).trans se;have hDe:=lW _ _ Su
     have te:TI K He (?k pe) (?j9):=by
      refine ?dC;simp only[qb1,qp5,qp6,qd5,qt5];exact qe
     have hyl:ys.length=i+1:=by have:=r2.length;ext D
     refine⟨D,_,_,rfl,rfl,hDe,?a0,?_⟩;refine⟨_,_,rfl,(?eM lW).turn RJ,Ab,?_⟩
     have e3:(?fZ::((?gC ?aR).map ?l3)) =
      (?qY)++[?j9]:=by
      rw[qk6,qb1];rfl
     rw[e3];exact Mx hDe (?X lW r2) te
   . rintro σ H2 Du;ext dR;intro ys o sH Su r2 Fc;rw[hn]at r2;ext sO;have c1:(?c8-1)=((?f8:Nat):Int):=O9m
     refine⟨_,rfl,?u ⟨rfl,_,SqL.of Su⟩,_,rfl,_,rfl,_,_,rfl,rfl,_,rfl,aw,_,rfl,hq2,?_,?p0⟩
     . ext lU;rw[c1,HT.sIx_nat]at z;omega
     rw[c1,S6]at qa;have hDa:=sa _ _ Su
     have ta:TI K Ha ?rA (?o0):=by
      refine ?dC;rw[qp5];exact qa
     have hyl:ys.length=w.length:=by have:=r2.length;simp at this;omega
     refine⟨D,_,_,rfl,rfl,hDa,?a0,?_⟩;ext f5;exact k D _ _ RJ ((?eM sa).turn RJ) Ab (Mx hDa (?X sa r2) ta)
noncomputable abbrev Oh:Stmt:=top 77
theorem Ci:?o [?k2,?bE,?pZ,?pG,"_law_base",?c5,?jX] ?kP (Au Oh):=Bf
theorem AS[?q](F:Ew K ?jQ ?jQ Oh f fd)[?p] :?sW ?kP Rx:=by
 refine ?tD Ci;obtain⟨c,fam,letters,rfl,hl0,hl1,hf,k⟩:=h;have m1:0<=?aA:=?nC;have m2:?aA<4:=?jT
 refine⟨_,(Af (?tH 0 (?vV J9))
  (Af (?tG ?aF (?vV J9))
  (Af (?tH 4 ?r)
  (Af (?v7 ?j (?tG ?aF (Bp Ei ?y Am)))
  (Af (Cj (?fI (fC (?t9 Sf ?j) (aO (?t9 Lz ?y)))) (Ak (?tG ?aF Am)) Bu)
  (Af (Cj (?t9 SY ?j) (Ak (?tH 4 ?j)) Bu)
  (Af (?tH 0 (?vV V8))
  (Af (?tH 5 ?fO)
  (Af (Cn qb9 rfl (?tV ?hA) (?vO 6 ?aF) (Af (?tH 5 (Bp ?g4 ?bI (D5 (?w0 (Bp J9 ?g ?J)))))
  (Ak (?tH 0 (Bp V8 ?g ?J)))))
  (?vP ?bI)))))))))),?_⟩
 ext G
 refine(?vI 1000000);refine(?vI 4);ext f5;have fork:(?eJ)\/(?fS/\?aA=1)\/(?fS/\¬?aA=1)\/0<fam:=O9m
 have mO:¬?eJ->¬(?r2):=fun z q=>z (by simpa using q);have Ac0:?eJ->?r2:=fun z=>by simp[z]
 have hb0:0<letters:=hl0;have hb1:letters<1073741824:=O9m
 rcases fork with hz|⟨hz,h1⟩|⟨hz,h1⟩ | hz
 . ext a9;refine bA (Ac0 hz) ?_;refine ?oU;ext a7;ext dO;ext hX;ext a7;ext dO;have hW:∀w:?eX,w.length=(?aA+1).toNat->?l4:=fun w e=>?u ⟨hz,O9m,O9m⟩;ext hP
   refine Cs (lo:=0) (n:=(?aA+1:Int).toNat)
    (?sZ (?vT (?aA+1) ?cJ))
    ?hK ?_ ?_
   . ext dS
     ext Y
     ext lG
   . ext hQ
 . ext a9;refine ?i0;ext a7;ext lT;ext a9;refine Nv (eqI h1) ?_;ext a7;ext dO;have hW:?pS:=fun w e=>?x (?u ?oL);ext hP
   refine Cs (lo:=0) (n:=?nY)
    (?sZ (?vT (?aA) ?cJ))
    ?hK ?_ ?_
   . ext dS
     ext Y
     ext lG
   . ext hQ
 . ext a9;refine ?i0;ext a7;ext lT;ext a9;refine bA (neI h1) ?_;ext a7;ext dO;have hW:∀w:?eX,w.length=?pE->?l4:=fun w e=>?x (?u ⟨hz,?x (?x e)⟩);ext hP
   refine Cs (lo:=0) (n:=?pE)
    (?sZ (?vT (3) ?cJ))
    ?hK ?_ ?_
   . ext dS
     ext Y
     ext lG
   . ext hQ
 . ext a9;refine ?i0;ext a7;ext dO;ext hX;ext a7;ext lT;ext f5;have hW:?pS:=fun w e=>?x (?x ?oL);have hb0:0<fam:=hz;have hb1:fam<1073741824:=O9m
   ext hP
   refine Cs (lo:=0) (n:=?nY)
    (?sZ (?vT (?aA) ?U))
    ?hK ?_ ?_
   . ext dS
     ext Y
     revert σ;refine U7 ?_;intro c' v o w s2 tv hwl Fc;obtain⟨a,rfl,Vw⟩:=tv.sq;refine ?mJ;have s3:?uC pt (?t [?d (c'%fam)]):=?v WL;refine ?rV;refine ?nR;refine(?uY [c'%fam]);rw[qb1];exact q3
   . ext hQ
noncomputable abbrev Xa:Stmt:=top 80
theorem Jq:?o [?g1,?rJ,"_law_piece",?kW,?o8] [?g1] (Au Xa):=Bf
theorem JP[?q](F:Ew K ?oD ?oD Xa f fd)[?p] :?sW [?g1] HB:=by
 refine ?tD Jq;obtain⟨a,xs,rfl,hL,hs,N4,kq⟩:=h;have dQ:=hr.u8;obtain⟨_,us,z,hq,r⟩:=?fC
 refine⟨_,(Af (Av (i:=1) ?e7 (AQ ?e ?e ?cG ?e ?aN (?w0 ?bQ)))
  (Af (Cn qb9 rfl ?bH (?vO 2 ?e7) (Ak (Cj (?t9 E5 (?vQ ?b9)) (Af (?tG ?e7 (?vS ?j (?vE ?r)))
  (Af (?tY ?e7 (?vS ?j (?vE ?r)))
  (Ak (Av (i:=1) ?e7 (B5 (N':=["_law_kept",?o8,?kW]) (cap:=[none,?c 4,?c 3]) ?e ?A (?tA Ca ?j) (?sV (?vO 0 VP)) ?L (?sV (Sd (?vY ?g ?j) ?r ?g))))))) Bu)))
  (Ak (Be (Bb kX ?bK qh1 (Aa (Dr (?tA KU ?e) ?e T.n_set boot_setT (?w0 (B5 (N':=["_law_place",?g1,?rJ]) (cap:=[none,?gI,?g8]) ?e ?A (?tV (Aa ?bQ Ae)) (?sV (?vO 0 vQ)) (?sV (My (Bh (QZ (K:=K) dQ) (?vS ?j ?g) ?fO ?s))) (?sV (?vS ?r ?g))))) Ae)))))),?_⟩
 ext G
 cases z;have UR:?mA:=?hG
 refine ?v8 (fun σ' H'=>E4 fun ?k0=>Ef (σ'=[?M,?b2,none,none,none]) ?d3 (?vU l ((Do xs 0).map ?w)))
 . refine⟨_,rfl,a,us,rfl,?dN,?pR,rfl,O9m,fun l hl=>?tI ⟨l,rfl,?v hl,?_⟩⟩;rw[Ab,UR];rfl
 refine Uv fun l1 H1 s1 hl1=>?_;intro sq;refine ?v8 (fun σ' H'=>Qm fun ?k0 ?nU=>Ef (σ'=?mH) (?h H1 H') (?vU l ((?nW).map ?w)))
 . let A64:?fQ:=fun i σ G=>Qm fun ?k0 ?nU=>Ef (σ=?mH) (?h H1 G) (G l=?t3 (?hL ?w))
   refine⟨_,rfl,a,rfl,⟨us,?dI⟩,?cA (K:=K) (a:=a) (xs:=us) A64 ⟨l1,_,_,_,rfl,?fG _,hl1⟩ (fun i σ G _ hz=>by obtain⟨_,_,_,_,_,g,_⟩:=hz;exact(?fD).seq hq) ?_ ?_⟩
   . rintro i v σ G hv Du
     ext Y
     revert σ;refine tP ?_;intro l o2 o3 o4 g hl Fc;have hi:=?e3;have wQ:i<xs.length:=O9m
     obtain⟨dv,iE,rv⟩:=r.getV hv;have hx:xs[i]?=?c (?c2):=by rw[qa4,qa0 wQ];rfl
     have edv:dv=tI (?c2):=by
      rw[qa9,hx]at iE;simpa using iE.symm
     subst edv;obtain⟨t,ts,rfl,ht,rt⟩:=id (?bS (?fD) rv);have ets:ts=(?c2).map ?w:=Gi.mp rt;subst ets;refine⟨_,rfl,t,_,rfl,?x ht,rfl,_,rfl,?_⟩;rw[qa2];ext f0
     . have x2:?fP=2:=by
        have:((?fP:Nat):Int)=2:=?aE
        omega
       obtain⟨⟨p0,p1⟩,q0,q1⟩:=AK hs hx x2;have ll:=T4 xs i;have at0:?uI 0 0:=oH O9m;have yN:?uI 1 1:=OG O9m;have al0:=S8 (lot:=?cH) p0 O9m;have al1:=S8 (lot:=?cH) q0 O9m;refine As (?tR [?M,?b2,rS t,?vA (?fX),o4] G) ?_ ?kS;rotate_left
       . exact⟨_,rfl,_,rfl,t,_,_,_,rfl,rfl,ht,at0,l,_,_,_,rfl,rfl,?kB,al0,?qV⟩
       ext hW;refine As (fun σ' H'=>σ'=[?M,?b2,rS t,?vA (?fX),?vA (?jO)]/\G=H') ?_ ?kS;rotate_left
       . exact⟨_,rfl,_,rfl,t,_,_,_,rfl,rfl,ht,yN,l,_,_,_,rfl,rfl,?kB,al1,?qV⟩
       ext hW;have RN:?mK=?hL fun v=>if v=?jO then ?fX else v:=?R x2
       generalize ?fX=one at RN;generalize ?jO=oth at RN;refine(?t6 l ⟨_,?kB⟩)
       let A63:?F:=fun j ys τ G'=>B6 (?h G G') (G' D=?bO) (ys=(?iI j).map ?w) (?t5 [o,iS oth,iS one])
       refine Cr (K:=K) (a:=l) (xs:=?hL ?w) A63
        ?aK (fun j ys τ G' _ hz=>by obtain⟨g2,_⟩:=hz;exact ?t4 g2 hl) ?_ ?_
       . rintro j v ys τ G' hv Du;ext a3;intro g2 Eo yl o Fc;have hj:=?e3;rw[qa2]at hj;rw[qa9,?kU]at hv;have ev:v=?d (?jS):=(qd3 hv).symm;subst ev;have Ap2:?mX:=by rw[yl,qa2,qc4,qa2];omega
         have KI:?iI ?eL=?iI j++[if ?iY then one else ?jS]:=by
          rw[qg0,qa9,?kU];rfl
         ext lQ;refine ?bC (fun h3=>?_) (fun h3=>?_)
         . have h4:?iY:=?i7
           ext sH;rw[KI,qb1,←yl,?R h4];rfl
         . have h4:¬?iY:=?i7
           ext sH;rw[KI,qb1,←yl,?N h4];rfl
       . rintro ys τ G' ⟨g2,Eo,yl,_⟩;refine⟨D,_,_,_,rfl,?dD g2,?_⟩;rw[Eo,yl,qa2,←qa2 (as:=?cH) (?n5),qd9,RN]
     . have x2:¬?fP=2:=fun z=>by
        have:¬((?fP:Nat):Int)=2:=?aE
        omega
       have RN:?mK=?cH:=?N x2;refine⟨l,_,_,_,rfl,g,?_⟩;rw[RN];exact hl
   . ext f3;refine tP ?_;intro l o2 o3 o4 g hl Fc;rw[UR]at hl;exact ?tI ⟨l,_,_,_,rfl,g,hl⟩
 refine yX fun l o2 o3 o4 H2 s2 hl=>?_;intro sq;have s12:=?bT;have ll:=T4 xs ?b6;generalize A24:?nW=lot at hl ll;refine⟨_,rfl,a,us,rfl,?u (s12.seq hq),_,rfl,O9m,O9m,?O⟩
 let A62:?F:=fun j ys τ G=>B6 (?h H2 G) (G D=?bO) (ys=((?j6).map fun p=>?jU p.toNat 0).map ?w) (?t5 [o,?M,?b2])
 refine Yp (lo:=0) (n:=us.length) A62
  ?aK ?_ ?_
 . rintro j ys τ G hj Du;ext a3;intro g Eo yl o Fc;have hj3:?oW:=O9m
   have hin:?b0<=0+?d9/\?cV<?kH:=O9m
   obtain⟨u1,v1,hu1,av1,tv1⟩:=LT.get (?bS (s12.trans g) hL) hin.1 hin.2
   have epc:?k3=?bP:=by
    show ?gR ?oE []=_
    congr 1
    omega
   have dt:∀l:?eX,dep (tI l)<=8:=fun l=>by show deps (Fg l)+1<=8;rw[Pp];decide
   have Ap9:TI K G v1 (?k3):=tv1;have Ap2:?mX:=by rw[yl,qa2,qa2];have:=Ff xs 0 j;omega
   refine⟨_,rfl,_,rfl,a,u1,_,_,rfl,rfl,hu1,av1,?Z,?iQ⟩;have s4:?h G (upd G T1 (?t [])):=?l1;refine⟨tI (?k3),tI [],?eQ s4 Ap9,?l7,dt _,_,rfl,?_⟩;rw[fX,epc];have cj:=(hs j (?bP) (by rw[qa4,?iM];rfl)).cnt;ext a8
   . have hz:?bP=[]:=qd2 h1;have e1:?p3=?j6++[?d9]:=cU (by rw[hz];rfl);have al:=S8 (lot:=lot) (p:=0+?d9) hin.1 O9m;refine⟨_,rfl,_,rfl,l,_,_,_,rfl,rfl,?t4 s4 (g _ _ hl),al,?n6,?a0,?v4 ?dD s4,Ab,?_,_,rfl⟩;rw[e1,qb1,qb1,←yl]
     congr 1
     show [?w (?jU ?oE 0)]=[?w (?jU (?d9).toNat 0)]
     rw[show ?cV=j by omega]
   . have hz:¬?bP=[]:=of_decide_eq_false (?C);have e1:?p3=?j6:=HN fun y=>hz (List.length_eq_zero_iff.mp (by unfold Dh at y;split at y<;>omega));refine⟨?dD s4,?n6,?_,_,rfl⟩;rw[e1];exact yl
 . rintro ys τ G ⟨g,Eo,yl,_⟩
   have e5:ys=(Qd xs).map ?w:=by
    rw[yl,UR];unfold Qd Ez;rw[A24]
   have vl:(Qd xs).length<=40:=by unfold Qd;rw[qa2];exact qa6 (Ff _ _ _) N4
   rw[e5]at Eo;refine⟨D,Qd xs,rfl,.of Eo,O9m,fun S hS=>⟨S,_,_,rfl,Ab,qa6 (PyProof.Rows.firstMet_length_le _ _) O9m,?_⟩⟩;exact kq _ ((s12.trans g).trans (?v hS))
noncomputable abbrev Hr:Stmt:=top 3
theorem R7:?o ?fW ?fW (Au Hr):=Bf
theorem Sh[?q](F:Ew K ?jL ?jL Hr f fd)[?p][?lP]:?sX ?fW (Go K):=by
 refine ?tD R7;obtain⟨x,d,b,rfl,hx,k⟩:=h;refine(?v5 (K8 (Aq Fl hr ?V) (M0 (mH HQ Sf Am ?g ?j))));refine⟨_,rfl,x,d,rfl,hx,_,rfl,?_⟩;ext hT
 . obtain⟨i,rfl⟩:=eO e;cases (show x=?aH from hx);ext a7;refine ?bC (fun e1=>?_) (fun e1=>?_)
   . refine ?oU;have e2:?kJ=?kM:=by show(?I (0<=i)&&?kM)=_;rw[e1];rfl
     ext dT
   . have e2:?kJ=false:=by show(?I (0<=i)&&?kM)=_;simp at e1;simp;omega
     ext dT
 . have e2:belowD d b=false:=by
    cases d<;>first | rfl | (exfalso;exact e rfl)
   ext dT
noncomputable abbrev EZ:Stmt:=top 15
theorem V7:?o [?dH,?c3,?iU,?c4,?a6] ?fU (Au EZ):=Bf
theorem QK[?q](F:Ew K ?k1 ?k1 EZ f fd)[?p][?sC]:?sX ?fU (HA K):=by
 refine ?tD V7;obtain⟨a,b,ms,ns,rfl,ha,hb,hm,hn,k⟩:=h
 refine⟨_,(Af (Av (i:=2) V7.nd (Dr gJ ?e ?rE Nj ?V))
  (Af (fD (Cn qb9 rfl (Ol ?j) (?u1 V7.nd (?vO 4 V7.nd)) (Ak (Br (?v9 Pm (Aa ?r (?t1 ?y ?J)))))))
  (?vP ?r))),?_⟩
 ext G
 refine⟨_,rfl,a,cK ms,rfl,ha,?O⟩;have JR:b≠D:=Ap hb hD;refine ?x ⟨b,?g0,(by rw[Al JR];exact hb),?n0⟩;refine⟨_,rfl,b,o,?g0,rfl,Ab,?_⟩
 let A61:?fQ:=fun i σ H1=>Jp fun o1 o2=>B6 (σ=[?M,?cZ,?d2,o1,o2]) (H1 b=?c (.frz o (.dK (?g0)))) (H1 D=?c (.dK (cK (?p9)))) ((∀c q,c≠b->c≠D->H c=?fN->H1 c=?fN))
 refine Ui (d:=b) (o:=o) (kvs:=?g0) A61
  ⟨?l,?l,rfl,Ab,?_,?_⟩ (fun i σ H1 _ hz=>by obtain⟨_,_,_,e,_⟩:=hz;exact e) ?_ ?_
 . rw[?mG,Ab];rfl
 . intro c q n1 n2 e;rw[Al n1,Al n2];exact e
 . rintro i kk x σ H1 p hx Du hp
   ext Y
   ext dR;intro o1 o2 hb1 Er hk1 Fc;obtain⟨q,hq,rfl,rfl⟩:=Yx hx;have npb:b≠p:=Ap hb1 hp;have npD:D≠p:=Ap Er hp;have hlt:?jW:=(?g9 hq).1;ext hR;refine⟨_,rfl,_,rfl,_,rfl,D,?p9,q.1,q.2,rfl,(by rw[Al npD];exact Er),?_,?_⟩
   . have:=dO (ns.take i) ms;rw[qc4]at this;omega
   . refine⟨_,_,rfl,?_,?_,fun c r n1 n2 e=>?_⟩
     . rw[Al JR,Al npb];exact hb1
     . rw[Ab,jL hq]
     . rw[Al n2,Al (Ap (?q8) hp)];exact ?q8
 . rintro σ H1 Du;ext dR;intro o1 o2 hb1 Er hk1 Fc;rw[Rk,qd9]at Er;refine⟨hb1,_,rfl,k D _ hD (fun c q e=>?_) (by rw[?mG];exact Er)⟩;by_cases z:c=b
   . subst z;rw[hb]at e;cases e;exact Ab
   . rw[Al z];exact hk1 c q z (Ap e hD) e
noncomputable abbrev Gu:Stmt:=top 33
theorem Qu:?o ?gZ ?gZ (Au Gu):=Bf
theorem Ra[?q](F:Ew K ?kV ?kV Gu f fd)[?p][?lO]:?sX ?gZ (Dt K):=by
 refine ?tD Qu;obtain⟨a,i,xs,rfl,hL,N4,k⟩:=h;obtain⟨us,hq,X6⟩:=?q2;obtain⟨_,us',z,hq',r⟩:=?fC;refine(?v5 (B5 (N':=[?c4,"piece","k"]) (cap:=?qL) ?e ?A (?uL Sc ?V) (?sV (?w1 TF TF)) (?sV (My (?vY (Aq Fk hr ?a4) ?r))) (?sV ?g)));cases z;refine(?t6 a ⟨us',hq'⟩);have Av4:us'.length=xs.length:=?hG
 let A60:?F:=fun j ys τ H1=>Ed (j<=us'.length) ?b1 ?aV (ys=(Nz xs i j).map ?w) (?u0 [o1,o2,?aI])
 refine AA (K:=K) (a:=a) (xs:=us') A60
  ⟨?Z,?b5,Ab,rfl,?l,?l,rfl⟩ (fun j ys τ H1 _ hz=>by obtain⟨_,s1,_⟩:=hz;exact ?bA hq') ?_ ?_
 . rintro j v ys τ H1 p hv Du hp;revert τ;refine TL ?_;intro hj s1 Er hys o1 o2 Fc;have hj2:j<us'.length:=?e3;have hj3:?oW:=O9m
   obtain⟨dv,iE,rv⟩:=r.getV hv
   have edv:dv=tI (?bP):=by
    rw[qa9,?iM]at iE;rw[qa4,?iM];simpa using iE.symm
   subst edv;have sp:?h H1 (?tO [?d j,v]):=?b7;ext hR;refine⟨_,rfl,v,Fg (?bP),rfl,?x (?bS (?eH) rv),_,rfl,rfl,_,rfl,?_⟩;rw[show(Fg (?bP)).length=?oM from qa2 ..];have yK:(?tO [?d j,v]) D=?bO:=?mC;have yl:ys.length<=j:=by rw[hys,qa2];exact Ff ..
   ext f0
   . have h3:?pN:=?aE
     refine⟨_,rfl,yK,?a0,O9m,?uV ?eH,Ab,?_,_,_,rfl⟩;rw[cU h3,qb1,hys];rfl
   . have h3:¬?pN:=?aE
     refine⟨O9m,?eH,yK,?_,_,_,rfl⟩;rw[HN h3];exact hys
 . rintro ys τ H1 ⟨_,s1,Er,hys,_⟩;rw[Av4]at hys;refine k D H1 hD s1 ?_;rw[Er,hys];rfl
noncomputable abbrev Ft:Stmt:=top 37
theorem Od:?o ?gS ?gS (Au Ft):=Bf
theorem On[?q](F:Ew K ?k6 ?k6 Ft f fd)[?p][?lP]:?sX ?gS (Ii K):=by
 refine ?tD Od;obtain⟨a,n,f,rfl,hq,hn,k⟩:=h;refine⟨_,(Ak (Be (K8 (?vR (?w2 Dc)) (K8 (M1 E5 ?bQ ?j ?s) (?w5 M0 (B5 (N':=[?a6]) (cap:=?eC) ?e ?A ?bH (?sV (?vO 0 mS)) ?L (?sV (?v9 Fl ?V)))))))),?_⟩;refine⟨_,rfl,?h1,?dK,dL n f,rfl,?iH,nZ hq,_,rfl,?_⟩;refine bA (by simp[iB,dL]) ?_;refine⟨_,rfl,a,_,rfl,?dN,_,rfl,rfl,_,rfl,?_⟩;refine bA (isI (?qG)) ?_;ext eZ
 let A59:?F:=?vD ?e4
 refine Cr (K:=K) (a:=a) (xs:=VI n f) A59
  ?aK (?t8 ?dI) ?_ ?_
 . ext dP;ext a3;ext f2;obtain⟨hi,rfl⟩:=Ur hx;refine⟨_,rfl,_,?d (f i),rfl,rfl,Er,?c6 ?eE,?eF,Ab,?_,_,rfl⟩;rw[qu1,qb1];rfl
 . ext f1;refine⟨D,?nA,rfl,?jJ,?_⟩;rw[?v0 ?nA];exact ?dV
noncomputable abbrev Ts:Stmt:=top 39
theorem EY:?o ?jD ?jD (Au Ts):=Bf
theorem FH[?q](F:Ew K ?q5 ?q5 Ts f fd)[?p](BE:Has P w K mg ?f ?kT ?hB 1 (i7 K)):?sX ?jD (Hn K):=by
 refine ?tD EY;obtain⟨v,h,w,f,rfl,hv,hh,hw,k⟩:=h;refine(?v5 (B5 (N':=["j",?aB]) (cap:=?iE) ?e ?A (?tV ?a4) (?sV (?vO 0 VX)) ?L (?sV (Aq BE hr (Aa ?j ?V)))));ext hS
 let A58:?F:=fun i ys τ H1=>E4 fun as=>B6 (as.length=i) (ys=?aT) (Rows H H1 D as h (fun i j=>f j i)) (?t5 [o,?aC])
 refine Il A58
  ?iS ?_ ?_
 . ext sQ;have hi2:i<w:=O9m
   refine⟨_,rfl,_,rfl,v,h,w,i,f,?m1,?oF,hh,hi2,?kN⟩;ext lH
 . ext lI
noncomputable abbrev FA:Stmt:=top 41
theorem pR:?o ?hM ?hM (Au FA):=Bf
theorem qL[?q](F:Ew K ?i3 ?i3 FA f fd)[?p](Yb:Has P w K mg ?f ?iZ ?g3 1 (Wp K)):?sX ?hM (aJ K):=by
 refine ?tD pR;obtain⟨n,rfl,hn,k⟩:=h;refine(?v5 (B5 (N':=["i",?kL]) (cap:=?iE) ?e ?A (?tV ?V) (?sV (?vO 0 VW)) ?L (?sV (Aq Yb hr (Aa ?j ?V)))));ext hS
 let A57:?F:=fun i ys τ H1=>E4 fun as=>B6 (as.length=i) (ys=?aT) (Rows H H1 D as n (fun i j=>?h2)) (?t5 [o,iS n])
 refine Il A57
  ?iS ?_ ?_
 . ext sQ;refine⟨_,rfl,_,rfl,n,i,?m1,hn,?kN⟩;ext lH
 . ext lI
noncomputable abbrev Mp:Stmt:=top 43
theorem Fy:?o [?gH,?aB,?aZ,?iU,?a6,?aU] ?jC (Au Mp):=Bf
theorem Zu[?q](F:Ew K ?kE ?kE Mp f fd)[?p][?lN]:?sX ?jC (P9 K):=by
 refine ?tD Fy;obtain⟨x,v,h,w,a,f,rfl,hx,hv,hh,hw,hm,k⟩:=h;obtain⟨tb,us,rfl,hq,X6,Nb⟩:=?eT
 refine⟨_,(Af (?tG ?fY (Bp MJ (Gd (?w0 Am)) ?r))
  (Af (Cn qb9 rfl (?uQ ?c9) (?v6 (?vO 4 ?fY) (?vO 5 ?fY)) (Ak (Av (i:=3) ?fY (?v9 Hw (Aa Am (Aa ?y (?t1 ?J ?bI)))))))
  (?vP ?y))),?_⟩
 ext G
 refine ?v8 (fun σ' H'=>E4 fun T=>B6 (σ'=[rS x,rS tb,iS w,rS T,none,none]) (?uA T) ?d3 (?vU T (VI w fun _=>0)))
 . refine⟨?aX,fun l0 hl0=>?_⟩;have s0:?h H (?uP l0 [?d 0]):=?v hl0;refine⟨_,rfl,l0,_,_,rfl,rfl,Ab,O9m,O9m,?gD,?nQ⟩;refine ?tI ⟨T,rfl,s0.free hT,s0.trans (?v hT),?_⟩;rw[Ab,qf5,XN]
 refine Wh fun T0 H1 hT0 s1 hT1=>?_;intro sq;refine⟨_,rfl,_,rfl,x,tb,rfl,⟨_,?bA hx⟩,⟨_,?dI⟩,?_⟩
 refine RL (K:=K) (a:=x) (b:=tb) (xs:=VI h a) (ys:=us) (n:=h) (by rw[Bq,X6,qt3]) (fun i σ H2=>Rs fun T o1 o2=>B6 (σ=[rS x,rS tb,iS w,rS T,o1,o2]) (?uA T) ?bJ (H2 T=?t3 (VI w fun j=>Ai (fun k=>a k*f k j) i)))
  ⟨T0,?l,?l,rfl,hT0,s1,hT1⟩ (fun i σ H2 _ hz=>by obtain⟨_,_,_,_,_,s2,_⟩:=hz;exact⟨?dX hx,?dX hq⟩) ?_ ?_
 . rintro i u v σ H2 pr hu hv Du hp;ext hY;intro T o1 o2 hT s2 hT2 Fc;obtain⟨hi,rfl⟩:=Ur hu;obtain⟨_,b,rfl,hb⟩:=Nb i _ hv;have sp:?uC pr (?t [?d (a i),?k b]):=?b7;ext lM;refine⟨_,rfl,_,rfl,_,rfl,1,a i,T,b,w,_,f i,rfl,?t4 sp hT2,(?lE).seq hb,O9m,fun j hj=>⟨?mR,hm i j hi hj⟩,fun D H3 hD s3 BG=>?_⟩;refine⟨D,_,_,rfl,(?lE).free hD,(?lE).trans s3,?_⟩;rw[BG]
   congr 2
   refine Pb fun j hj=>?_;show 1*_+_=Ai _ i+_;rw[qd0]
 . rintro σ H2 Du;ext hY;intro T o1 o2 hT s2 hT2 Fc;exact⟨_,rfl,k T H2 hT s2 hT2⟩
noncomputable abbrev Of:Stmt:=top 47
theorem Mn:?o [?dF,?i2,?a6,"i","face"] ?o7 (Au Of):=Bf
theorem AR[?q](F:Ew K ?oJ ?oJ Of f fd)[?p][?sC]:?sX ?o7 (Rw K):=by
 refine ?tD Mn;obtain⟨a,v,ms,fs,n,rfl,ha,hv,hm,kq⟩:=h;obtain⟨af,rfl,sq⟩:=TI.sq hv;refine⟨_,(Ak (Cn qb9 rfl (?uL mE ?a4) (?u1 Mn.nd (?vO 4 Mn.nd)) (Ak (Br (?v9 Pm (Aa ?g (?t1 ?J (Sd (?vY (Bp J9 ?y Am) Am) ?r (Lx Hm ?r))))))))),?_⟩
 let A56:?fQ:=fun i σ H1=>∃o1 o2,σ=?qI/\Qj a H H1/\H1 a=?c (.dK (cK (?m2)))
 refine⟨_,rfl,af,rfl,⟨_,sq⟩,kH (K:=K) (a:=af) (xs:=fs.map ?w) A56
  ⟨?l,?l,rfl,fun _ _ _ e=>e,ha⟩ (fun i σ H1 _ ⟨_,_,_,s1,_⟩=>Dy.x s1 ha sq) ?_ ?_⟩
 . rintro i x σ H1 p hx Du hp
   ext Y
   refine ex2 ?_ Du;clear Du;intro o1 o2 Du;refine A31 ?_ Du;clear Du;rintro rfl s1 ha1;have hi:i<fs.length:=?fE
   have hxv:x=?eW:=by
    rw[qa9,?bF]at hx;rw[qa4,?bF];ext f6
   subst hxv;have sp:?h H1 (?tO [?aH,?eW]):=?b7;have ha2:=sp _ _ ha1;have hl:=T7 ms fs n i;ext hR
   have fin:∀m,m=HF n i->Pf K [?h1,?eW,?d m] (?tO [?aH,?eW]) (fun v H'=>∃o1 o2,([?M,rS af,iS n,?vA ?b8,?c (?eW)]:St)=?qI/\Qj a H H'/\H' a=?c (.dK (cK (Hh ms fs n ?aR)))) E0:=by
    intro m hm2;subst hm2;refine⟨a,?m2,_,_,rfl,ha2,O9m,_,_,rfl,fun c q n1 e=>?_,Ab⟩;rw[Al n1];exact sp _ _ (s1 c q n1 e)
   refine⟨_,rfl,_,rfl,_,rfl,_,_,rfl,rfl,(?tE 2),rfl,_,rfl,?_⟩;ext a8
   . have h2:?b8%2=0:=?C
     exact⟨_,rfl,fin n (by unfold HF;rw[?R h2])⟩
   . have h2:¬?b8%2=0:=?C
     exact⟨_,rfl,_,rfl,fin (-n) (by unfold HF;rw[?N h2])⟩
 . rintro σ H1 ⟨o1,o2,rfl,s1,ha1⟩;rw[qa2]at ha1;exact kq H1 s1 ha1
noncomputable abbrev W5:Stmt:=top 53
theorem Tl:?o ["lines",?d5,?iU,"i"] ?l0 (Au W5):=Bf
theorem jN[?q](F:Ew K ?kQ ?kQ W5 f fd)[?p][?lN]:?sX ?l0 (Wv K):=by
 refine ?tD Tl;obtain⟨r,u,as,n,W,f,t,rfl,x,hu,hm,hn,hW,k⟩:=h;have hq:SqL K H r (?aT):=.of x.2.1
 refine⟨_,(Af (?uB 2 Tl.nd)
  (Af (?tG Tl.nd ?bZ)
  (Af (Cj (?vY ?bZ Mz) (Ak (J7 (B5 (N':=[?a6]) (cap:=?eC) ?e ?A (?tA Ca (?vS ?g ?y)) (?sV (?vO 0 mS)) ?L (?sV (Lx Hm ?g))) (J8 ?r ?y Fe))) (Ak (Cj (?vY ?bZ Mz) (Af (?v1 ?bZ ?y)
  (Ak (?v1 ?y ?bZ))) (Ak (J7 (?v9 Hw (Aa Am (Aa (?vS ?g ?y) (?t1 ?bZ (?vS ?g ?bZ))))) (J8 ?r ?y Fe))))))
  (?vP ?r)))),?_⟩
 ext G
 refine⟨_,rfl,r,?aT,rfl,?dN,fun L hL=>?_⟩;have sL:?h H (?oI):=?v hL;generalize hHL:?oI=HL at sL;have hLL:HL L=?t3 (?aT):=by rw[←hHL];exact Ab
 have hqL:SqL K HL r (?aT):=?eB hq
 have fin:∀(i:Nat) (D:Addr) (H1:Hp),i<n->HL D=none->?qO->H1 D=?t3 (VI W (pJ t f i))->(∀r,r≠i->pJ t f r=f r)->H1 L=?t3 (?aT)/\?uT Q (?k L):=by
  intro i D H1 hi hD s1 h1 he;have nDL:D≠L:=fun z=>by rw[z,hLL]at hD;cases hD
  refine⟨s1 _ _ hLL,?_⟩;have s2:?uT ?h H:=(sL.trans s1).turn hL;refine k L (as.set i D) _ hL s2 (x.made s2 hi Ab (by rw[Al nDL];exact h1) he) ?bW;rcases qm7 ha with ha | rfl
  . exact⟨?u ha,fun z=>x.there.2 a ha (z▸hL)⟩
  . exact⟨?x (sL.free hD),nDL⟩
 cases t with
 | sw i j=>exact hm.elim
 | mi i =>
   have hi:i<n:=hm;obtain⟨ta,vs,rfl,hT,rT⟩:=hu;ext sT;have hT1:Dy K HL ta [V.str "minus",?w i]:=?o9;obtain⟨b,_,eb,_,hb⟩:=?pO;ext sP;ext lK;refine ?rH;refine⟨_,rfl,_,rfl,r,_,_,_,rfl,rfl,hqL,Bl eb,b,rfl,⟨_,?eB hb⟩,?O⟩
   let A55:?F:=fun c ys τ H1=>B6 (?qO) ?aV (ys=VI c (fun c=>-(f i c))) ?e4
   refine Cr (K:=K) (a:=b) (xs:=VI W (f i)) A55
    ?aK (fun c ys τ H1 _ hz=>by ext cQ;exact ?bA (?eB hb)) ?_ ?_
   . rintro c y ys τ H1 hx Du;ext a3;ext f2;obtain⟨hc,rfl⟩:=Ur hx;refine⟨_,rfl,_,rfl,Er,?gP,?eF,Ab,?_,_,rfl⟩;rw[Tb]
   . ext f1;rw[Bq]at Er;ext rZ
     ext s4
 | ad i j m =>
   obtain⟨hi,hj,hij,hm⟩:=hm;ext s1;have hT1:Dy K HL ta [V.str "add",?w i,?w j,?w m]:=?o9;obtain⟨bi,_,ebi,_,hbi⟩:=?pO;obtain⟨bj,_,ebj,_,hbj⟩:=?tA x.row hj;ext sP;ext lK;refine ?i1;ext lK;refine ?i1;refine⟨_,rfl,_,rfl,r,_,_,_,rfl,rfl,hqL,Bl ebi,_,rfl,ta,_,_,_,rfl,rfl,hT1,rfl,_,rfl,_,rfl,ta,_,_,_,rfl,rfl,hT1,rfl,r,_,_,_,rfl,rfl,hqL,Bl ebj,?_⟩;refine⟨1,m,bi,bj,W,f i,f j,rfl,?eB hbi,?eB hbj,hW,fun c hc=>⟨?mR,hm c hc⟩,fun D H1 hD s1 Er=>?_⟩;ext rZ
   ext s4
noncomputable abbrev Ey:Stmt:=Eb (top 55) 2
theorem C5:?o [?aP,"i","j",?dH,?c3,"papers","a","b","c","d",?aU,"back"] ?qQ (Au Ey):=Bf
theorem Oq[?q](F:Ew K "blend" "Lines.blend" Ey f fd)[?p](F9:Has P w K mg ?f "shared_divisor" ?fU 1 (U3 K))[?lN]:?sX ?qQ (?vC Lq):=by
 refine ?tD C5;obtain⟨p,C,r,b,sv,n,W,i,j,A,B,s,N,rfl,hC,x,hi,hj,hij,hn,hW,hA,hB,lA,lB,bo,k⟩:=h;ext s3;obtain⟨pr,pb⟩:=x.refs;have rb:=x.ne
 have hc:?jB:=by
  rcases hC with rfl | rfl
  . ext lL
  . ext lJ
 refine⟨_,(Af (Av (i:=5) ?bY (?v9 F9 (?t1 ?y ?J)))
  (Af (?tS 6 ?hH)
  (Af (?tS 7 ?hH)
  (Af (?tS 8 (Lx Hm (Bp Ka ?J ?hH)))
  (Af (?tS 9 (Bp Ka ?y ?hH))
  (Af (?tS 10 (?vS ?W ?j))
  (Af (?w7 ?bG (?u5 10 ?cX))
  (Af (?vZ ?cO (?u5 10 ?dJ))
  (Af (?tS 11 (?vS ?W ?j))
  (Af (?w7 ?dJ (?u5 11 (Lx Hm ?cO)))
  (Af (?vZ (Lx Hm ?cX) (?u5 11 ?bG))
  (?vP ?bI)))))))))))),?_⟩
 ext G
 refine ?v8 (fun σ' H'=>Qm fun(L:Addr) (g a c:Int)=>B6 (σ'=[?aW,?aI,iS j,iS A,iS B,?aG,none,none,none,none,none,none]) ?d3 (Dy K H' L ?pB) (Lat.Shares A B g a c))
 . exact⟨_,rfl,_,rfl,A,B,rfl,hA,hB,lA,lB,fun L g a c H1 s1 hL sh=>?tI ⟨L,g,a,c,rfl,s1,hL,sh⟩⟩
 refine YW fun L g a c H1 s1 hL sh=>?_;intro sq;have g0:=sh.pos;have lg:g.natAbs<L9:=qb5 (Nat.le_of_dvd (Int.natAbs_pos.mpr O9m) (qt7.mpr sh.dA)) lA;have cb:∀z:Int,Uu z g:=fun z=>Uu.of9 O9m lg;have la:a.natAbs<L9:=qb5 sh.la lB;have lc:c.natAbs<L9:=qb5 sh.lb lA;have eB:B.fdiv g=B / g:=?r5;have eA:A.fdiv g=?cB:=?r5;have lz':(B / g).natAbs<L9:=qb5 ?pK lB;have lz:(-(B / g)).natAbs<L9:=by rw[qc2];exact lz'
 have lu:(?cB).natAbs<L9:=qb5 ?pK lA;have hp1:=?r6;have hr1:=s1 _ _ xa.2.1;obtain⟨ci,_,lJ,mci,kE⟩:=?r3;obtain⟨cj,_,yL,mcj,hcj⟩:=?tA ?jE hj;obtain⟨di,_,edi,mdi,hdi⟩:=?tA xb.row hi;obtain⟨dj,_,edj,mdj,hdj⟩:=?tA xb.row hj;have mk:∀{u:Int}{k c U:Nat}{f:Lat.Mat},u.natAbs<L9->Lat.Bits n U big f->k<n->c<U->IntMulOk u (f k c):=fun h1 h2 h3 h4=>FL h1 (h2 _ _ h3 h4);ext sU;ext sU;refine⟨_,rfl,_,rfl,L,_,_,_,rfl,rfl,hL,rfl,_,_,rfl,rfl,cb _,_,rfl,?_⟩;refine⟨_,rfl,_,rfl,L,_,_,_,rfl,rfl,hL,rfl,_,_,rfl,rfl,cb _,?_⟩;refine⟨_,rfl,p,C,dx,fs,_,rfl,hp1,?P,?bM,l1,_,rfl,r,_,_,_,rfl,rfl,.of hr1,Bl lJ,?_⟩;refine As (fun σ' H'=>?t2 a/\H1=H') ?_ fun key=>?tI ⟨by rw[←eA,←eB];rfl,rfl⟩;ext f4;refine ?v8 (fun σ' H'=>E4 fun D1=>Nm (?t2 a) (Ut r b H1 H') (Kp H1 H') (H1 D1=none) (H' b=H1 b) (?vU r (?pT)) (?vU D1 (VI W fun k=>a*s.1 i k+c*s.1 j k)))
 . refine⟨_,rfl,_,rfl,_,rfl,_,rfl,p,C,dx,fs,_,rfl,hp1,?P,?bM,l1,_,rfl,r,_,_,_,rfl,rfl,.of hr1,Bl yL,?_⟩;refine⟨a,c,ci,cj,W,s.1 i,s.1 j,rfl,?bA kE,?bA hcj,hW,?u6 la lc,fun D1 H2 Er s2 h2=>?_⟩;have nD:D1≠r:=fun z=>by rw[z,hr1]at Er;cases Er
   refine⟨_,rfl,p,C,dx,fs,_,rfl,(?vJ hp1),?P,?bM,l1,_,rfl,r,_,_,i,rfl,rfl,?vJ hr1,Jk (by rw[qa2,xa.1];exact hi),?_⟩;exact ?tI ⟨D1,rfl,(?eV s2).l,?vB s2,Er,by rw[?q0,?vJ (?cD),?cD],Ab,by rw[?fA];exact h2⟩
 refine GS fun D1 H3 oZ kp3 n1 b3 r3 d3=>?_;intro sq;have hp3:=oZ _ _ pr pb hp1;have kr:?uH as:=?tQ na na;have kb:?uH bs:=?tQ nb nb;have qr:∀{G:Hp}{k:Nat}{c:Addr},?iB->c∈as->SqL K H c (VI W (s.1 k))->as[k]?=?c c->SqL K G c (VI W (s.1 k)):=fun fr hc _ e=>.of (kr fr hc _ (xa.2.2 _ _ e));have rci:as[i]?=?c ci:=by rw[qa9]at lJ;obtain⟨z,e1,e2⟩:=?hI lJ;cases e2;exact e1
 have rcj:as[j]?=?c cj:=by rw[qa9]at yL;obtain⟨z,e1,e2⟩:=?hI yL;cases e2;exact e1
 have rdi:bs[i]?=?c di:=by rw[qa9]at edi;obtain⟨z,e1,e2⟩:=?hI edi;cases e2;exact e1
 have rdj:bs[j]?=?c dj:=by rw[qa9]at edj;obtain⟨z,e1,e2⟩:=?hI edj;cases e2;exact e1
 have D1r:D1≠r:=fun z=>by rw[z,hr1]at n1;cases n1
 have D1b:D1≠b:=fun z=>by rw[z,?cD]at n1;cases n1
 refine ?v8 (fun σ' H'=>E4 fun D2=>Nm (?t2 a) (Ut r b H3 H') (?mW) (H3 D2=none) (H' b=H3 b) (?vU r ((?pT).set j (?k D2))) (?vU D2 (VI W fun k=>-(B / g)*s.1 i k+?cB*s.1 j k)))
 . refine⟨_,rfl,_,rfl,_,rfl,_,rfl,p,C,dx,fs,_,rfl,hp3,?P,?bM,l1,_,rfl,r,_,_,_,rfl,rfl,.of r3,Bl (by rw[qk4 hij];exact yL),?_⟩;refine⟨-(B / g),?cB,ci,cj,W,s.1 i,s.1 j,rfl,qr oZ mci kE rci,qr oZ mcj hcj rcj,hW,?u6 lz lu,fun D2 H4 Su s4 h4=>?_⟩;have nD:D2≠r:=fun z=>by rw[z,r3]at Su;cases Su
   refine⟨_,rfl,p,C,dx,fs,_,rfl,(s4 _ _ hp3),?P,?bM,l1,_,rfl,r,_,_,j,rfl,rfl,s4 _ _ r3,Jk (by rw[qi3,qa2,xa.1];exact hj),?_⟩;refine ?tI ⟨D2,rfl,(?eV s4).l,?vB s4,Su,?_,Ab,by rw[?fA];exact h4⟩;have e3:H3 b=?t3 (bs.map ?cF):=by rw[b3];exact ?cD
   rw[?q0,s4 _ _ e3,e3]
 refine GS fun D2 H5 WY yF n2 b5 r5 d5=>?_;intro sq;have e5:H5 b=?t3 (bs.map ?cF):=by rw[b5,b3];exact ?cD
 have WZ:=oZ.trans WY;have DQ:=WY _ _ pr pb hp3;have D2r:D2≠r:=fun z=>by rw[z,r3]at n2;cases n2
 have D2b:D2≠b:=fun z=>by rw[z,b3,?cD]at n2;cases n2
 refine⟨_,rfl,p,C,dx,fs,_,rfl,DQ,?P,?bB,l2,_,rfl,b,_,_,_,rfl,rfl,.of e5,Bl edi,?_⟩;refine As (fun σ' H'=>?t0 a/\H5=H') ?_ fun key=>?o3;ext f4;refine ?v8 (fun σ' H'=>E4 fun D3=>Nm (?t0 a) (Ut r b H5 H') (Kp H5 H') (H5 D3=none) (H' r=H5 r) (?vU b (?n7)) (?vU D3 (VI n fun k=>?cB*s.2 i k+-?a5*s.2 j k)))
 . refine⟨_,rfl,_,rfl,_,rfl,_,rfl,_,rfl,p,C,dx,fs,_,rfl,DQ,?P,?bB,l2,_,rfl,b,_,_,_,rfl,rfl,.of e5,Bl edj,?_⟩;refine⟨?cB,-?a5,di,dj,n,s.2 i,s.2 j,rfl,?uK WZ,?uJ WZ,hn,?u4 lu (by rw[qc2];exact lz),fun D3 H6 BG s6 h6=>?_⟩;have nD:D3≠b:=fun z=>by rw[z,e5]at BG;cases BG
   refine⟨_,rfl,p,C,dx,fs,_,rfl,(s6 _ _ DQ),?P,?bB,l2,_,rfl,b,_,_,i,rfl,rfl,s6 _ _ e5,Jk (by rw[qa2,xb.1];exact hi),?_⟩;exact ?tI ⟨D3,rfl,(?eV s6).r,?vB s6,BG,by rw[Al rb,s6 _ _ r5,r5],Ab,by rw[?fA];exact h6⟩
 refine GS fun D3 H7 fr7 kp7 n3 r7 b7 d7=>?_;intro sq;have wZ:=WZ.trans fr7;have hp7:=fr7 _ _ pr pb DQ;have D3r:D3≠r:=fun z=>by rw[z,r5]at n3;cases n3
 have D3b:D3≠b:=fun z=>by rw[z,e5]at n3;cases n3
 refine ?v8 (fun σ' H'=>E4 fun D4=>Nm (?t0 a) (Ut r b H7 H') (Kp H7 H') (H7 D4=none) (H' r=H7 r) (?vU b ((?n7).set j (?k D4))) (?vU D4 (VI n fun k=>-c*s.2 i k+a*s.2 j k)))
 . refine⟨_,rfl,_,rfl,_,rfl,_,rfl,_,rfl,p,C,dx,fs,_,rfl,hp7,?P,?bB,l2,_,rfl,b,_,_,_,rfl,rfl,.of b7,Bl (by rw[qk4 hij];exact edj),?_⟩;refine⟨-c,a,di,dj,n,s.2 i,s.2 j,rfl,?uK wZ,?uJ wZ,hn,?u4 (by rw[qc2];exact lc) la,fun D4 H8 CA s8 h8=>?_⟩;have nD:D4≠b:=fun z=>by rw[z,b7]at CA;cases CA
   refine⟨_,rfl,p,C,dx,fs,_,rfl,(s8 _ _ hp7),?P,?bB,l2,_,rfl,b,_,_,j,rfl,rfl,s8 _ _ b7,Jk (by rw[qi3,qa2,xb.1];exact hj),?_⟩;refine ?tI ⟨D4,rfl,(?eV s8).r,?vB s8,CA,?_,Ab,by rw[?fA];exact h8⟩;have e7:=r7.trans r5;rw[Al rb,s8 _ _ e7,e7]
 refine GS fun D4 H9 fr9 kp9 n4 r9 b9 d9=>?_;intro sq;have KG:=wZ.trans fr9;have D4r:D4≠r:=fun z=>by rw[z,r7,r5]at n4;cases n4
 have D4b:D4≠b:=fun z=>by rw[z,b7]at n4;cases n4
 have k19:Kp H1 H9:=((kp3.trans yF).trans kp7).trans kp9;have u1:?uA D1:=?kI n1
 have aI:∀{G:Hp}{D:Addr},Kp H G->G D=none->?hJ:=fun kp e=>by
  cases z:H _ with
  | none=>rfl
  | some o=>exact ?jP e (kp _ (by rw[z];exact fun q=>by cases q))
 have k01:Kp H H1:=?c1 s1;have u2:?rP:=aI (?g6 kp3) n2;have u3:?uA D3:=aI ((?g6 kp3).trans yF) n3;have u4:?uA D4:=aI (((?g6 kp3).trans yF).trans kp7) n4;ext sI
 have hL9:Dy K H9 L ?pB:=by
  rcases hL with h | h
  . exact ?u (by
     have hLr:L≠r:=fun z=>by rw[z]at h;rcases h with h|⟨_,h⟩<;>rw[hr1]at h<;>cases h
     have hLb:L≠b:=fun z=>by rw[z]at h;rcases h with h|⟨_,h⟩<;>rw[?cD]at h<;>cases h
     rcases h with h|⟨q,h⟩
     . exact ?u (?pH)
     . exact ?x ⟨q,?pH⟩)
  . exact ?x h
 refine⟨_,rfl,k L g a c H9 ((?eV s1).trans KG) ?o2 hL9 sh ⟨⟨dx,fs,KG _ _ pr pb hp1,l1,l2,l3,l4,l5⟩,⟨_,xa.two (D1:=D1) (D2:=D2) hi hj hij ?_ (fun a ha=>kr KG ha) ?_ ?_ ?_,?bW⟩,⟨_,xb.two hi hj hij b9 (fun a ha=>kb KG ha) ?_ ?_ ?_,?bW⟩,rb,x.nr,x.nb,fun a ha z=>x.nn a ha (aI ?o2 z)⟩⟩
 . rw[r9,r7,r5]
 . show ?vG D1 i;rw[Lat.blend_row_p hij];exact(fr9 _ _ D1r D1b (fr7 _ _ D1r D1b (WY _ _ D1r D1b d3)))
 . show ?vG D2 j;rw[Lat.blend_row_q];exact(fr9 _ _ D2r D2b (fr7 _ _ D2r D2b d5))
 . ext sK
 . rcases HW ha with ha | rfl | rfl
   . exact na a ha
   . exact⟨D1r,D1b,nN _ u1⟩
   . exact⟨D2r,D2b,nN _ u2⟩
 . show H9 D3=?t3 (?vH i);rw[Lat.blend_row_p hij];exact fr9 _ _ D3r D3b d7
 . show H9 D4=?t3 (?vH j);rw[Lat.blend_row_q];exact d9
 . ext sK
 . rcases HW ha with ha | rfl | rfl
   . exact nb a ha
   . exact⟨D3r,D3b,nN _ u3⟩
   . exact⟨D4r,D4b,nN _ u4⟩
noncomputable abbrev Iv:Stmt:=Eb ?mE 0
theorem Tm:?o ?bN ?bN (Au Iv):=Bf
theorem Tx[?q](F:Ew K ?hE "Stairs.__init__" Iv f fd)[?p](Ya:XT P w K mg ?f Ah ?hE ?bN 1 (?vC Lp)):?sX ?bN (?vC cJ):=by
 refine ?tD Tm;obtain⟨p,dx,r,b,rfl,hp,k⟩:=h
 refine⟨_,(Af (Br (QH Ya hr ?e ?iD (Aa ?g (Aa ?j ?b9))))
  (Ak (?tB ?cM))),?_⟩
 ext G
 refine⟨_,rfl,_,rfl,_,rfl,p,dx,Ad,r,b,rfl,?x rfl,hp,fun H1 fs hfs hH1=>?_⟩;have hp1:H1 p=?c (?T Ad dx fs):=by rw[hH1];exact Ab
 have s1:?b4 p H H1:=by rw[hH1];exact ?cC ?e5
 have hl:fs.length<=2:=by rw[hfs];exact ?nB
 refine⟨qa8 _,fun D hD=>?_⟩;have yK:p≠D:=Ap hp1 hD;refine⟨_,rfl,p,Ad,dx,fs,rfl,by rw[Al yK];exact hp1,T.cl_Stairs,T.na_Stairs_starts,O9m,?_⟩;refine k D _ _ ?_ (by rw[hfs]) (SameX.upd (s1.trans (SameX.of (Same.new hD)))) (by rw[Al yK.symm];exact Ab) Ab;cases z:H D with
 | none=>rfl
 | some o=>rw[s1 _ _ yK.symm z]at hD;cases hD
noncomputable abbrev J6:Stmt:=top 78
theorem B7:?o [?eG,?c5,?bE,"_law_layer","_law_rows",?jX,"_law_below",?kW,?oC,?oB] ?kC (Au J6):=Bf
theorem Vs[?q](F:Ew K ?lA ?lA J6 f fd)[?p][?s8]:?sX ?kC (Np K):=by
 refine ?tD B7;obtain⟨l,us,v,ws,w,fam,rfl,hl,hr0,hv,hw,hlen,k⟩:=h;have dQ:=hr.u8
 have s0w:∀u∈[w],?rD:=fun u hu=>by
  have e:u=w:=by simpa using hu
  subst e;exact hw
 refine⟨_,(Af (?tG ?aL (Gd ?a4))
  (Af (?tY ?aL ?cM)
  (Af (Cn qb9 rfl (?tV (?w0 Am)) (?uU 5) (Af (?tY ?aL (Bp (?w4 T8) ?y ?J))
  (Af (Av (i:=6) ?aL ?cM)
  (Af (?vW ?y (Cn qb9 rfl (?tA Ca (?v9 Gm (Aa ?cX ?b9))) (?uU 8) (Ak (Cj (?fI (fC (Bh ?hN ?cO ?g rfl) (aO (Bh ?hN ?cO ?bG rfl)))) (Ak (?t7 ?bG ?cO)) Bu))))
  (Ak (?tG ?aL ?bG))))))
  (Af (?uB 9 ?aL)
  (Af (?vW ?J (Cj (Bh ?hN ?cX ?dJ rfl) (Ak (?t7 ?dJ ?cX)) Bu))
  (?vP ?dJ)))))),?_⟩
 ext G
 refine⟨_,rfl,?aX,fun L0 hL0=>?_⟩;have s1:?h H (?uP L0 [v]):=?v hL0;refine⟨?Z,fun R0 hR0=>?_⟩;have s2:?h (?uP L0 [v]) (upd (?uP L0 [v]) R0 ?d0):=?v hR0
 refine⟨_,rfl,?cP,?cP,Cs (lo:=0) (n:=(4:Int).toNat)
  (fun i σ H2=>gQ fun(L R:Addr) (lu ru:?cE) (?hO rows:Ar) (o5 o6 o7 o8 o9:?aM)=>iY (σ=[?b2,?aC,?U,?aG,rS R,o5,o6,o7,o8,o9]) ?bJ (H2 L=?t3 lu) (?a1 K H2 lu (layer.map tI)) (H2 R=?t3 ru) (?a1 K H2 ru (rows.map tI)) ((∀u∈layer,?rD)) (M6 ws fam (4-i) ?hO rows=?pU) (layer.length<=4 ^ i) (rows.length<=1000*i))
  ⟨L0,R0,[v],[],[w],[],?l,?l,?l,?l,?l,rfl,?bT,?nH,Reps.one (?eQ (?bT) hv),Ab,rfl,s0w,rfl,?cK,?cK⟩ ?_ ?_⟩
 . ext dS
   ext Y
   ext s2;have hi4:i<4:=?r8
   have h4i:4 ^ i<=64:=by
    have:i=0\/i=1\/i=2\/i=3:=O9m
    rcases this with rfl | rfl | rfl | rfl<;>decide
   have lul:lu.length=layer.length:=by have:=rL.length;ext D
   ext s6
   refine⟨_,rfl,_,rfl,L,R,_,_,rfl,rfl,.of hL,.of hR,B9 O9m,fun R1 hR1=>?_⟩;have sa:?h H2 ?bL:=?v hR1;have Ay9:?bL R1=?t3 (lu++ru):=Ab
   have rRa:?a1 K ?bL (lu++ru) (?uF ?p8):=by
    rw[qb1];exact(?oK).append (?X sa rR)
   have hLa:=sa _ _ hL;have rLa:?a1 K ?bL lu (layer.map tI):=?oK;have sHa:?h H ?bL:=?eM sa;refine⟨?Z,fun B hB=>?_⟩;have sb:?h ?bL (upd ?bL B ?d0):=?v hB;have hBH:?uA B:=sHa.free hB
   refine⟨_,rfl,L,rfl,⟨_,?t4 sb hLa⟩,?cA (K:=K) (a:=L) (xs:=lu)
    (fun j σ H3=>Rs fun ?oY (o7 o8:?aM)=>B6 (σ=[?b2,?aC,?U,?aG,rS R1,?vA (0+i),rS B,o7,o8,o9]) (?h ?bL H3) (H3 B=?t3 bu) (?a1 K H3 bu (?uF ?rF)))
    ⟨[],_,_,rfl,sb,Ab,rfl⟩ (fun j σ H3 _ hz=>by obtain⟨_,_,_,_,s3,_⟩:=hz;exact ?t4 s3 hLa) ?_ ?_⟩
   . rintro j x σ H3 hx Du
     ext Y
     ext hY;intro bu o7 o8 s3 YK rB Fc;have hj:j<lu.length:=?d8;have hjl:j<layer.length:=O9m
     have hjx:(layer.map tI)[j]?=?c (tI ?e2):=?p6
     obtain⟨x',hx',tx⟩:=rLa.get hjx;rw[hx]at hx';cases hx';have hwj:Fa fam ?e2:=yJ _ (qe8 _);refine⟨_,rfl,_,rfl,x,?e2,fam,rfl,?qE,hwj,fun p fu H4 hp s4 Pl r4=>?_⟩;have fl:=Ju hwj;have ful:fu.length=?kK:=by have:=r4.length;ext D
     have hpB:p≠B:=fun z=>by rw[z,YK]at hp;cases hp
     have hB4:=s4 _ _ YK
     refine⟨p,rfl,(?vN Pl),?cA (K:=K) (a:=p) (xs:=fu)
      (fun m σ H5=>Jp fun ?oY (o8:?aM)=>Ed (σ=[?b2,?aC,?U,?aG,rS R1,?vA (0+i),rS B,?c x,o8,o9]) (?b4 B H4 H5) (H5 B=?t3 bu) (?a1 K H5 bu (?uF ?cN)) (?qC<=1000))
      ⟨bu,_,rfl,SameX.refl _ _,hB4,(by simpa[C0]using ?X s4 rB),?_⟩ (fun m σ H5 _ hz=>by obtain⟨_,_,_,s5,_⟩:=hz;exact .of (s5 _ _ hpB Pl)) ?_ ?_⟩
     . have:=?m3;simp only[List.take_zero,C0,qk8,qc4]at this ⊢;omega
     . rintro m y σ H5 hy Du
       ext Y
       revert σ;refine TR ?_;intro YM o8' s5 TX PX Ay2 Fc;have hm:?nI:=?pF;have hmf:m<?kK:=O9m
       have hmy:(?uF ?e0)[m]?=?c (tI ?mZ):=?mY
       obtain⟨y',hy',ty⟩:=r4.get hmy;rw[hy]at hy';cases hy';generalize hf:?mZ=fc at ty;have ty5:TI K H5 y fc:=TI.t (s5.t hB4) ty
       have hl5:H5 l=?c ?q3:=by
        refine s5 l _ (?l5) (s4 _ _ (s3 _ _ (sHa _ _ hl)));rw[z]at hl;rw[hl]at hBH;cases hBH
       have rl5:Rep K H5 (?k l) (?i (?dA)):=⟨l,us,rfl,.of hl5,Reps.t (s5.t hB4) (X4 ws) (?X ((sHa.trans s3).trans s4) hr0)⟩
       have rb5:Rep K H5 (?k B) (?i (?uF ?cN)):=⟨B,YM,rfl,.of TX,PX⟩
       have e0:?qP=(if fc ∉ ws/\fc ∉ ?cN then ?cN++[fc] else ?cN):=by
        rw[qg0,?l2,hf];exact Vj _ _ _ _
       have Ay1:YM.length=?qC:=by have:=PX.length;ext D
       have NH:(?qP).length<=1000:=by
        have h1:=Rm (ws:=ws) (?j4 (m+1)) ?h5;have h2:=?m3;simp only[qk8,qc4]at h1 h2;have h3:?kK<=4:=by have:=fl.1;have:=fl.2;split at*<;> omega
        omega
       generalize hacc:?cN=acc at PX rb5 e0 Ay1 Ay2;refine⟨_,rfl,_,rfl,tI fc,?dA,ty5,?u rl5,(by have:=Mb ws;omega),_,rfl,?_⟩;by_cases h1:fc∈ws
       . ext sR;ext hX;refine ?p1;rw[e0,?N (by simp[h1])];exact PX
       . ext sS;refine(?tM ty5 rb5);by_cases h2:?pY
         . refine ?uW Nv;refine ?p1;rw[e0,?N (by simp[h2])];exact PX
         . refine ?uW bA;refine⟨_,rfl,?u ⟨rfl,_,.of TX⟩,_,rfl,B,_,_,rfl,rfl,TX,?a0,?_⟩;refine⟨_,_,rfl,s5.upd,Ab,?_,NH⟩;rw[e0,?R ⟨h1,h2⟩];exact Mx TX PX ty5
     . rintro σ H5 Du;revert σ;refine TR ?_;intro YM o8' s5 TX PX _ Fc;refine⟨YM,_,_,rfl,?_,TX,?_⟩
       . exact s5.same (?j0) hB
       . rw[ful,qd9]at PX;rw[qg0,?jZ];have e1:?vL (layer.take j++(?c ?e2).toList)=C0 ws ?h5 (?e0):=Y1 _ _ _ _ _;rw[e1];exact PX
   . rintro σ H3 Du;ext hY;intro bu o7 o8 s3 YK rB Fc;rw[lul,qd9]at rB;ext f5;refine⟨B,R1,bu,lu++ru,?vL ?hO,?p8,_,_,_,_,_,rfl,sHa.trans s3,YK,rB,s3 _ _ Ay9,?X s3 rRa,?_,?_,?_,?_⟩
     . intro u hu;rcases Pw _ _ hu with z|⟨t,ht,z⟩
       . exact ?qH
       . exact(Nh (yJ t ht) z).1
     . rw[←hlay,show 4-i=(4-?aR)+1 by omega];rfl
     . have:=Me (ws:=ws) (fam:=fam) ?hO [] yJ;simp only[qk8]at this;rw[qg4];omega
     . rw[qc0];omega
 . rintro σ H2 Du;ext s2;have Kr:rows=?pU:=hlay;have Aw1:=fP (ws:=ws) hw;rw[←Kr]at Aw1;ext s6
   refine⟨_,rfl,l,_,rfl,?u (?t4 sH hl),fun M hM=>?_⟩;have sm:?uC M ?q3:=?v hM;have hMH:?mT:=sH.free hM;have UR:us.length=ws.length:=by have:=hr0.length;ext D
   refine⟨_,rfl,R,rfl,⟨_,?t4 sm hR⟩,?cA (K:=K) (a:=R) (xs:=ru)
    (fun j σ H3=>Jp fun(mu:?cE) (o7:?aM)=>B6 (σ=[?b2,?aC,?U,?aG,rS R,o5,o6,o7,o8,rS M]) (?h H2 H3) (H3 M=?t3 mu) (?a1 K H3 mu (?uF ?cT)))
    ⟨us,_,rfl,sm,Ab,(by simpa[Ev]using ?X (?eM sm) hr0)⟩ (fun j σ H3 _ hz=>by obtain⟨_,_,_,s3,_⟩:=hz;exact ?t4 s3 hR) ?_ ?_⟩
   . rintro j x σ H3 hx Du
     ext Y
     ext dR;intro mu o7' s3 WV rM Fc;have hj:j<ru.length:=?d8;have hjl:j<rows.length:=O9m
     have hjx:(rows.map tI)[j]?=?c (tI rows[j]):=?p6
     obtain⟨x',hx',tx⟩:=rR.get hjx;rw[hx]at hx';cases hx';generalize hf:rows[j]=fc at tx;have tx3:TI K H3 x fc:=?qE
     have e0:Ev ws (?iC ?eL)=(if fc∈?cT then ?cT else ?cT++[fc]):=by
      rw[qg0,?jZ,hf];exact Vk _ _ _
     have hal:=Y9 (?iC j) ws;rw[qc4]at hal;have mul:mu.length=(?cT).length:=?n9
     generalize hacc:?cT=acc at rM e0 hal mul;have rm3:Rep K H3 (?k M) (?i (?k4)):=⟨M,mu,rfl,.of WV,rM⟩
     refine(?tM tx3 rm3);by_cases h1:?pY
     . ext sR;refine⟨mu,_,rfl,s3,WV,?_⟩;rw[e0,?R h1];exact rM
     . ext sS;refine⟨_,rfl,?u ⟨rfl,_,.of WV⟩,_,rfl,M,_,_,rfl,rfl,WV,?a0,?_⟩;refine⟨_,_,rfl,s3.turn hM,Ab,?_⟩;rw[e0,?N h1];exact Mx WV rM tx3
   . rintro σ H3 Du;ext dR;intro mu o7' s3 WV rM Fc;rw[rul,qd9,Kr]at rM;exact⟨_,rfl,k M mu H3 hMH (?eM s3) WV rM⟩
noncomputable abbrev Fs:Stmt:=top 9
theorem Oc:?o ?eN ?eN (Au Fs):=Bf
theorem Om[?q](F:Ew K ?jY ?jY Fs f fd)[?p][?sD][?lO]:?sY ?eN (Fd K):=by
 refine ?tD Oc;obtain⟨a,x,d,l,xs,rfl,hL,hx,k⟩:=h;obtain⟨us,hq,X6⟩:=?q2;refine(?v5 (K8 (Aq D6 hr (?t1 ?j ?bQ)) (M0 (M1 E5 (Aq Fk hr (?w0 ?fT)) ?r ?s))));refine⟨_,rfl,_,rfl,a,us,rfl,?dN,x,d,_,rfl,hx,_,rfl,?_⟩;rw[X6];ext hT
 . obtain⟨i,rfl⟩:∃i,d=?aH:=by cases d<;>first | exact ?iL | (exfalso;simp[belowD]at e)
   cases (show x=?aH from hx);have e':?lX:=e;have h0:0<=i/\i<?kH:=by simpa using e'
   obtain⟨us',v,hq',hv,tv⟩:=LT.get hL h0.1 h0.2;refine⟨_,rfl,_,rfl,a,us',i,v,rfl,rfl,hq',hv,v,_,rfl,?x tv,_,rfl,rfl,?_⟩
   have e2:De xs (?aH) l=?I (?tU Fg=l):=by
    show ?uR _;rw[e'];simp[Fg]
   rw[e2]at k
   have e3:?I (?w (?tU Fg)=?w l)=?I (?tU Fg=l):=by
    by_cases z:?tU Fg=l
    . simp[z]
    . simp[z]
   rw[e3];exact k
 . have e2:De xs d l=false:=by
    cases d with
    | int i =>
      have e':¬?lX:=e;show ?uR false;rw[Bool.eq_false_iff.mpr e'];rfl
    | _=>rfl
   ext dT
noncomputable abbrev K3:Stmt:=top 32
theorem W2:?o ?iR ?iR (Au K3):=Bf
theorem Xj[?q](F:Ew K ?pA ?pA K3 f fd)[?p][?sD]:?sY ?iR (F8 K):=by
 refine ?tD W2;obtain⟨i,b,rfl,h0,h1,k⟩:=h;refine⟨_,(?w6 (Ht (Gw (?v9 D6 ?c9))) Sb),?_⟩;refine⟨_,rfl,_,rfl,?aH,?aH,b,rfl,rfl,_,rfl,?_⟩;rw[show ?kJ=true from belowD_of h0 h1];ext hX;exact k
noncomputable abbrev Q0:Stmt:=top 36
theorem cP:?o ?iO ?iO (Au Q0):=Bf
theorem DB[?q](F:Ew K ?r9 ?r9 Q0 f fd)[?p](Gf:Has P w K mg ?f ?k6 ?gS 2 (Ii K)):?sY ?iO (Uz K):=by
 refine ?tD cP;obtain⟨v,h,w,f,rfl,hv,hh,hw,k⟩:=h;obtain⟨Uw,EB⟩:=T.x_MOST_ROWS;obtain⟨a,us,rfl,hq,X6,Nb⟩:=?eT
 refine⟨_,(Af (?w8 ?fI (cT (?vK ?g (?w2 Dc)) (Xb (Bh SY ?bQ (Jj (v:=?d 40) ?e EB ?iL) ?s))))
  (Ak (?w5 Be (B5 (N':=[?aU,?aZ]) (cap:=?fR) ?e ?A ?bH (?sV (?vO 0 mP)) ?L (?sV (?v9 Gf ?c9)))))),?_⟩
 ext G
 refine⟨_,rfl,?h1,?dK,dT h w f,rfl,?iH,hv,_,rfl,?_⟩;refine Nv (by simp[iB,dT]) ?_;refine⟨_,rfl,a,_,rfl,?dN,_,_,rfl,rfl,_,rfl,?_⟩;ext dO;ext eZ
 let A54:?F:=?vD (?t5 [o,iS w])
 refine Cr (K:=K) (a:=a) (xs:=us) A54
  ?aK (?t8 ?dI) ?_ ?_
 . ext dP;ext a3;ext f2;ext lR;refine⟨_,rfl,_,rfl,b,w,f i,rfl,?iT,hw,fun H2 s2=>?_⟩;refine⟨?nS,?c6 ?eE,?uV ?bT,Ab,?_,_,rfl⟩;rw[qu1,qb1];rfl
 . ext f1;refine⟨D,?nJ,rfl,?jJ,?_⟩;rw[?v0 ?nJ];exact ?dV
noncomputable abbrev Tp:Stmt:=top 38
theorem eX:?o ?jK ?jK (Au Tp):=Bf
theorem fG[?q](F:Ew K ?rU ?rU Tp f fd)[?p](Oy:Has P w K mg ?f ?kE ?jC 2 (P9 K)):?sY ?jK (Qr K):=by
 refine ?tD eX;obtain⟨u,v,h,d,w,f,g,rfl,hu,hv,hh,hd,hw,hm,k⟩:=h;obtain⟨a,us,rfl,hq,X6,Nb⟩:=Hf hu;refine(?v5 (B5 (N':=[?aU,?c3,?aZ]) (cap:=[none,?g8,?h3]) ?e ?A ?bH (?sV (?vO 0 Aa4)) ?L (?sV (Aq Oy hr (Aa ?g (Aa ?j ?b9))))));ext eZ
 let A53:?F:=fun i ys τ H1=>E4 fun as=>B6 (as.length=i) (ys=?aT) (Rows H H1 D as w (fun i j=>Ai (fun k=>f i k*g k j) d)) (?t5 [o,?aC,iS w])
 refine Cr (K:=K) (a:=a) (xs:=us) A53
  ?iS (fun i ys τ H1 _ hz=>by obtain⟨as,_,_,R,_⟩:=hz;exact ?rL hq) ?_ ?_
 . rintro i x ys τ H1 hx ⟨as,hal,rfl,R,o,rfl⟩;ext lR;refine⟨_,rfl,_,rfl,_,rfl,b,v,d,w,f i,g,rfl,?rL hb,?oF,hd,hw,fun k j hk hj=>hm i k j hi hk hj,?kN⟩;ext lH
 . ext lI
noncomputable abbrev Q4:Stmt:=top 51
theorem CQ:?o ?kR ?kR (Au Q4):=Bf
theorem dF[?q](F:Ew K ?p4 ?p4 Q4 f fd)[?p](Bo:Has P w K mg ?f ?kV ?gZ 2 (Dt K)):?sY ?kR (i8 K):=by
 refine ?tD CQ;obtain⟨a,b,xs,k,ns,rfl,hL,N4,hb,hnl,kq⟩:=h;refine⟨_,(Ak (Be (Dr (Yw ?e) ?e ?rE Nj (?w0 (B5 (N':=[?c4,?a6]) (cap:=[none,none]) ?e ?A (?uQ (Aa (?v9 Bo ?c9) ?b9)) (?sV (?v6 (?vO 0 mR) (?vO 1 mR))) (?sV (My (Bh Lz ?j Am ?s))) (?sV (D5 ?c9))))))),?_⟩;refine⟨_,rfl,_,rfl,a,k,xs,rfl,hL,N4,fun P H1 hP s1 hP1=>?_⟩;have pl:(Ez xs k).length<=1000:=qa6 (Ff ..) N4;have hnd:=Jr xs k;generalize IC:Ez xs k=sp at hP1 hnl pl hnd kq;have hb1:=?iT;have hzn:=LL hnl hnd;have hzl:(?gM).length=sp.length:=by rw[List.length_zip];omega
 refine⟨_,rfl,P,b,rfl,(?vN hP1),⟨_,hb1⟩,?O⟩
 refine dY (K:=K) (a:=P) (b:=b) (xs:=?pX) (ys:=?i8) (n:=sp.length) (by rw[qa2,qa2];omega) (fun i zs τ G=>B6 (?h H1 G) (G D=?f7) ((∃ts:?rQ,zs=ts.map ?cF/\ts.length=?j8/\∀(j:Nat) t,ts[j]?=?c t->∃p:Int × Int,(Rj ((?gM).take i))[j]?=?c p/\G t=?c (?t [?d p.1,?d p.2])/\t≠D)) (?u0 [o1,o2]))
  ⟨?b5,Ab,⟨[],rfl,rfl,fun j t z=>?rG⟩,?l,?l,rfl⟩ (fun i zs τ G _ hz=>by obtain⟨g,_⟩:=hz;exact⟨?t4 g hP1,?g5 hb1⟩) ?_ ?_
 . rintro i x y zs τ G p hx hy ⟨g,Eo,⟨ts,rfl,IB,hts⟩,o1,o2,rfl⟩ hp;ext sA
   have hz:=UN hnl hi
   have hxv:x=?d (?qM):=by
    rw[qa9,?bF]at hx;rw[qa4,?bF];ext f6
   have hyv:y=?d (?qB):=by
    rw[qa9,qa0 (show ?jW by omega)]at hy;rw[qa4,qa0 (show ?jW by omega)];simpa using hy.symm
   subst hxv hyv;have ct:=KQ hz;generalize ?qM=sv at hz ct;generalize ?qB=nv at hz ct;have gp:?h G (?jA):=?b7;have hp1:(?jA) p=?c (?tZ nv):=Ab;generalize ?jA=G1 at gp hp1;have ctl:?j8<=i:=qa6 (qY _) (by rw[qc4];omega);refine⟨p,_,rfl,.of hp1,rfl,_,_,rfl,_,_,rfl,rfl,?_⟩;ext a9;ext a8
   . have e:¬nv=0:=?C
     rw[?N e]at ct;refine⟨_,rfl,_,rfl,?aX,fun t ht=>?_⟩;have gt:=gp.trans (?v (o:=?tZ nv) ht);have ntD:t≠D:=(Ap (?g7) ht).symm;have hDt:=gt _ _ Eo;have htt:(?oV) t=?c (?tZ nv):=Ab;generalize ?oV=G2 at gt hDt htt;refine⟨hDt,?k5,?v4 ?dD gt,Ab,⟨ts++[t],?cK,by rw[ct];simp[IB],fun j t' e2=>?_⟩,_,_,rfl⟩;rw[ct];rw[List.getElem?_append]at e2;split at e2
     . rename_i hj
       obtain⟨p',eN,h2',h3'⟩:=hts j t' e2;exact⟨p',by rw[qd1 ?eA];exact eN,by rw[Al h3'];exact gt _ _ h2',h3'⟩
     . rename_i hj
       have hj0:j-ts.length=0:=by
        cases hz:j-ts.length with
        | zero=>rfl
        | succ m=>rw[hz]at e2;simp at e2
       rw[hj0]at e2;have et:t=t':=by simpa using e2
       subst et;refine⟨(sv,nv),?_,?_,ntD⟩
       . rw[qe0 ?eA,show j-?j8=0 by omega];rfl
       . rw[Al ntD];exact htt
   . have e:nv=0:=?C
     rw[?R e]at ct;rw[ct];exact⟨?kA,?g7,⟨ts,rfl,IB,fun j t z=>let ⟨p',a1,a2,a3⟩:=hts j t z;⟨p',a1,gp _ _ a2,a3⟩⟩,_,_,rfl⟩
 . rintro zs τ G ⟨g,Eo,⟨ts,rfl,IB,hts⟩,_⟩;rw[←hzl,qd9]at IB hts;refine⟨D,ts,cK (Rj (?gM)),rfl,Eo,(by rw[Rk];exact IB),fun i t e2=>?_,?q9⟩
   . obtain⟨p,eN,h2',_⟩:=hts i t e2;refine⟨(?u p.1,?d p.2),?_,h2'⟩;unfold cK;rw[qa9,eN];rfl
   . refine kq E _ ((?fD).free hE) ((?fD).trans (?v hE)) ?_;rw[Ab,M3 _ [] (by rw[qn8];exact Xr.mpr (Aa7 hzn)),qn8]
noncomputable abbrev Fi:Stmt:=Eb (top 55) 1
theorem Zo:?o ?gQ ?gQ (Au Fi):=Bf
theorem Qc[?q](F:Ew K ?d5 "Lines.turn" Fi f fd)[?p](Sr:Has P w K mg ?f ?kQ ?l0 2 (Wv K))(Wd:Has P w K mg ?f ?l9 ?gY 1 (j3 K)):?sY ?gQ (?vC Jy):=by
 refine ?tD Zo;obtain⟨p,u,C,r,b,sv,n,W,s,N,t,rfl,hC,x,hu,m1,m2,hn,hW,k⟩:=h;ext s3
 have hc:?jB:=by
  rcases hC with rfl | rfl
  . ext lL
  . ext lJ
 refine⟨_,(Af (?tB (?v9 Sr (Aa ?W ?a4)))
  (Ak (Eg (K:=K) ?g (?v9 Sr (?t1 ?W (Aq Wd hr ?a4)))))),?_⟩
 ext G
 refine⟨_,rfl,p,C,dx,fs,_,rfl,hp,?P,?bM,l1,_,rfl,r,u,as,n,W,s.1,t,rfl,xa,hu,m1,hn,hW,fun D1 uC H1 Er s1 x1 n1=>?_⟩;have hp1:=?r6;refine⟨_,rfl,p,C,dx,fs,rfl,hp1,?P,?bM,O9m,?_⟩;have ZK:?b4 p H ?e8:=?cC (?fL s1);have zK:?b4 p H1 ?e8:=?h8
 have hu1:Rep K ?e8 u (pA t):=by
  refine Rep.t ⟨fun b xs e=>?_,fun b o u e=>?_⟩ (by cases t<;>rfl) hu
  . ext sN
  . ext sN
 have hl1:?n3=fs.length:=Lw l1;have hp2:?e8 p=?c (?T C dx (?tT fs)):=Ab;have x2:=x1.x hp1 zK;have PF:=xb.x hp ZK
 have RK:?uS ?e8 ?oS:=fun a e=>by
  by_cases hap:a=p
  . rw[hap,Ab]at e;cases e
  . rw[Al hap]at e;exact ?kI e
 generalize YJ:?lY=H2 at ZK zK hu1 hp2 x2 PF RK;refine⟨_,rfl,p,C,dx,_,_,rfl,hp2,?P,?bB,(by ext lS;exact l2),_,rfl,u,t,rfl,hu1,fun u2 H3 s3 hu3=>?_⟩;refine⟨b,u2,bs,n,n,s.2,tnA t,rfl,PF.same s3,hu3,m2,hn,hn,fun D2 bs2 H4 Su s4 x4 n4=>?_⟩;have LH:=?j0;have Pl:=LH _ _ hp2;refine⟨_,rfl,p,C,dx,_,rfl,Pl,?P,?bB,O9m,?_⟩;have hl2:(?Q ?eD (?cF D2) (?rS)).length=?n3:=Lw (x:=?k b) (by ext lS;exact l2);have UY:?b4 p H4 (upd H4 p (?T C dx (?Q ?eD (?k D2) (?tT fs)))):=?h8;have f2:?rP:=RK _ (s3.free Su);have dne:D1≠D2:=fun z=>?nX ?mF;ext sI;refine k D1 D2 _ (?cC (ZK.trans (?fL LH))) Er f2 ⟨⟨dx,_,Ab,?_,?_,?_,?k9,O9m⟩,⟨uC,(x2.same LH).x Pl UY,?bW⟩,⟨bs2,x4.x Pl UY,?bW⟩,dne,nN _ Er,nN _ f2,fun a ha z=>?_⟩
 . rw[An,?gJ,An,?aO]
 . rw[An,?aO]
 . rw[An,?gJ,An,?gJ];exact l3
 . rw[An,?eI,An,?eI];exact l4 m hm
 . have h1:=(x2.same s3).there.2 a ha;obtain⟨h2,h3⟩:=n1 a ha;refine⟨h3,fun z=>h1 ?mF,?_⟩;rcases h2 with h2 | h2
   . exact(na a h2).2.2
   . exact nN a h2
 . obtain⟨h2,h3⟩:=n4 a ha;refine⟨?l5,h3,?_⟩
   . rcases h2 with h2 | h2
     . exact xb.there.2 a h2 (z▸Er)
     . exact ?nX (z▸h2)
   . rcases h2 with h2 | h2
     . exact(nb a h2).2.2
     . exact nN a (RK _ (s3.free h2))
 . by_cases hap:a=p
   . rw[hap,Ab]at z;cases z
   . rw[Al hap]at z;exact x.nn a ha (RK _ (LH.free z))
noncomputable abbrev K4:Stmt:=Eb (top 63) 0
theorem W3:?o ?lF ?lF (Au K4):=Bf
theorem Xk[?q](F:Ew K ?hE "Work.__init__" K4 f fd)[?p](Kd:eL P w K mg ?f Ah ?bN 1 (?vC Lp))(Qg:Has P w K mg ?f ?i3 ?hM 2 (aJ K)):?sY ?lF (?vC CK):=by
 refine ?tD W3;obtain⟨H0,p,dx,v,n,w,M,rfl,s0,fp,hp,hv,hn,hw,k⟩:=h;obtain⟨ta,us,rfl,hq0,X6,_⟩:=?eT
 refine⟨_,(Af (?tB ?j)
  (Af (?tB ?r)
  (Af (?tB (Ly Kd hr ?e ?iD (Aa (?v9 Qg (?w0 (?vQ ?a4))) (?w0 (?v9 Qg (Aa (?vQ ?a4) Ae))))))
  (Af (Eg (K:=K) ?g (Ly Kd hr ?e ?iD (?t1 (?v9 Qg ?b9) (?v9 Qg ?b9))))
  (Ak (?tB ?cM)))))),?_⟩
 ext G
 have mkL:∀{G1 G2 G3:Hp}{D1 D2 L BJ:Addr}{uC GL:?rQ}{m:Nat}{fs:?j1}{G4:Hp}{N:Addr->Prop},uC.length=m->Rows G1 G2 D1 uC m (fun i j=>?h2)->GL.length=m->Rows G2 G3 D2 GL m (fun i j=>?h2)->G3 L=none->?h G3 (?u9 L)->fs=?Q ?eD (?k D2) (?tT [])->G4=upd (upd (?u9 L) L (?T Ah BJ (?tT []))) L (?T Ah BJ fs)->(∀a,N a->G1 a≠none) →
  ?rK/\LX G4 Ah L D1 D2 ?l m m ?c7 N:=by
  intro G1 G2 G3 D1 D2 L BJ uC GL m fs G4 N hl1 R1 hl2 R2 nL sN hfs wW hN;have hL4:G4 L=?c (?T Ah BJ fs):=by rw[wW];exact Ab
  have st:?rK:=fun a o e=>by
   rw[wW,Al (Ap e nL),Al (Ap e nL)];exact sN _ _ e
  clear wW
  have x1:TA G4 D1 uC m m ?iA:=((?qT).same (R2.same.trans st)).congr fun i c _ _=>by
   by_cases z:i=c
   . subst z;simp[Lat.one]
   . ext sL
  have x2:TA G4 D2 GL m m ?iA:=((TA.of R2 hl2).same st).congr fun i c _ _=>by
   by_cases z:i=c
   . subst z;simp[Lat.one]
   . ext sL
  have t1:=(?qT).there;have f2:?uS G2 ?mL:=fun a e=>?j5 e;have nN:∀a,?mL->¬N a:=fun a e z=>hN a z e;refine⟨st,⟨BJ,fs,hL4,?kG,?kG,?kG,?k9,?_⟩,⟨uC,x1,?bW⟩,⟨GL,x2,?bW⟩,fun z=>t1.1 ?nN,nN _ ?j7,nN _ (f2 _ R2.free),fun a ha z=>hN a ha (f2 _ (R2.same.free (st.free z)))⟩
  . rw[hfs,An,?eI,An,?eI];rfl
  . rw[hfs];exact qa6 ?d1 (qa6 ?qK ?aY)
  . obtain⟨i,hi,rfl⟩:=qh5 ha;obtain⟨z1,z2,z3⟩:=R1.row i _ (?bF);exact⟨z2,fun z=>t1.2 _ ha ?nN,nN _ z1⟩
  . obtain⟨i,hi,rfl⟩:=qh5 ha;obtain⟨z1,z2,z3⟩:=R2.row i _ (?bF);exact⟨fun z=>t1.1 (z▸z1),z2,nN _ (f2 _ z1)⟩
 refine⟨_,rfl,_,rfl,p,Aj,dx,_,rfl,hp,?dU,T.na_Work_table,?cK,?_⟩;refine Gh (fun σ' H'=>?fF/\upd H p (?T Aj dx (?Q ?aB (?k ta) []))=H') ?_ ?jI;ext hW;refine ?v8 (fun σ' H'=>?fF/\∃fs,fs=?Q ?aZ (?d (w:Int)) (?Q ?aB (?k ta) [])/\?lD/\?b4 p H H')
 . refine⟨_,rfl,_,rfl,p,Aj,dx,_,rfl,Ab,?dU,T.na_Work_width,?nF,?_⟩;exact ?tI ⟨rfl,_,rfl,Ab,?cC ?e5⟩
 refine Ig fun H2 cB=>?_;intro sq;obtain⟨fs2,hf2,hp2,ZJ⟩:=cB;have l2:fs2.length<=2:=by rw[hf2];exact ?nB
 have VC:?h H0 H2:=ZJ.same s0 fp;refine ?v8 (fun σ' H'=>?fF/\∃(L O1 O2:Addr) (fs:?j1),fs=?Q "left" (?k L) fs2/\?lD/\?b4 p H2 H'/\Kp H2 H'/\p≠L/\H2 L=none/\H2 O1=none/\H2 O2=none/\?tJ H' (?fM))
 . refine⟨_,rfl,ta,us,rfl,?u (VC.seq hq0),n,(by rw[X6]<;>rfl),O9m,fun O1 os1 G1 hl1 R1=>?_⟩;refine⟨_,rfl,ta,us,rfl,?u ((VC.trans R1.same).seq hq0),n,(by rw[X6]<;>rfl),O9m,fun O2 os2 G2 hl2 R2=>?_⟩;have s2:=?oT;intro L dl nL ndl As7;have sN:?u2 L L:=?rX nL;refine⟨L,dl,Ah,?k O1,?k O2,rfl,?gF,Ab,?qU⟩;obtain⟨st,lx⟩:=?tN nL;have Pl:=st _ _ (?vJ hp2);have QO:p≠L:=Ap (?vJ hp2) nL;refine(?tK Pl T.na_Work_left);exact ?tI ⟨rfl,L,O1,O2,_,rfl,Ab,?cC (?fL (?a2 st)),?vB (?a2 st),QO,?iW nL,?j7,?j5 R2.free,lx.x Pl QO ?e5 ?aD⟩
 refine Ig fun H3 cB=>?_;intro sq;obtain⟨L,O1,O2,TY,hf3,hp3,sx3,kp3,QO,nL,n1,n2,yD⟩:=cB;have l3:TY.length<=3:=by rw[hf3];exact qa6 ?d1 (qi4 l2)
 have zP:?h H0 H3:=sx3.same VC fp;refine ?v8 (fun σ' H'=>?fF/\∃(R O3 O4:Addr) (fs:?j1),fs=?Q "right" (?k R) TY/\?lD/\?b4 p H3 H'/\?mW/\p≠R/\H3 R=none/\H3 O3=none/\H3 O4=none/\?tJ H' (fun a=>?q4)/\LX H' Ah R O3 O4 ?l w w ?c7 (?fM))
 . refine⟨_,rfl,w,rfl,O9m,fun O1' os1 G1 hl1 R1=>?_⟩;refine⟨_,rfl,w,rfl,O9m,fun O2' os2 G2 hl2 R2=>?_⟩;have s2:=?oT;intro R dl nR ndl As7;have sN:?u2 R R:=?rX nR;refine⟨R,dl,Ah,?k O1',?k O2',rfl,?gF,Ab,?qU⟩;obtain⟨st,lx⟩:=?tN nR;have Pl:=st _ _ (?vJ hp3);have tE:p≠R:=Ap (?vJ hp3) nR;have n4:H3 O2'=none:=?j5 R2.free;refine(?tK Pl T.na_Work_right)
   have y1:?tJ G4 (fun a=>a=O1'\/a=O2'):=yD.more (?a2 st) (fun a ha=>?x (by rcases ha with rfl | rfl;exact R1.free;exact n4)) fun a ha=>by
    rcases ha with rfl | rfl
    . obtain⟨_,z,_⟩:=lx.rw;exact ?qA
    . obtain⟨_,z,_⟩:=lx.bk;exact ?qA
   exact ?tI ⟨rfl,R,O1',O2',_,rfl,Ab,?cC (?fL (?a2 st)),?vB (?a2 st),tE,?iW nR,?j7,n4,y1.x Pl QO ?e5 ?aD,lx.x Pl tE ?e5 ?aD⟩
 refine Ig fun H4 cB=>?_;intro sq;obtain⟨R,O3,O4,fs4,yI,Pl,sS,kp4,tE,nR,n3,n4,lx4,ly4⟩:=cB;have l4:fs4.length<=4:=by rw[yI];exact qa6 ?d1 (qi4 l3)
 have sV:?h H0 H4:=sS.same zP fp;refine⟨?Z,fun nm hnm=>?_⟩;have sn:?h H4 (?oA):=?v hnm;have wN:upd H4 nm ?d0 nm=?c ?d0:=Ab;have DQ:=sn _ _ Pl;generalize ?oA=H5 at sn wN DQ;refine(?tK DQ T.na_Work_numbers)
 have ex:∀a,?rO->H5 a≠none:=fun a ha=>by
  rcases ha with rfl | rfl | rfl
  . rw[wN];exact fun z=>?qH
  . obtain⟨_,z,_⟩:=ly4.rw;exact ?qW
  . obtain⟨_,z,_⟩:=ly4.bk;exact ?qW
 have z1:?tJ H5 (fun a=>?rO):=lx4.more sn (fun a ha=>ha.elim (fun e=>?x (e▸hnm)) ?u) ex;have z2:LX H5 Ah R O3 O4 ?l w w ?c7 (fun a=>a=nm):=ly4.more sn (fun a ha=>?x (ha▸hnm)) fun a ha=>ex a (?u ha);have CF:?b4 p H5 (?u8 p):=?h8;have s06:?h H0 (?u8 p):=CF.same (sV.trans sn) fp;have g2:?uS H2 ?oH:=fun a e=>VC.free e;have g3:?uS H3 ?oH:=fun a e=>zP.free e;have npn:p≠nm:=Ap Pl hnm;have LR:L≠R:=fun z=>by obtain⟨_,_,q,_⟩:=yD.ob;rw[z,nR]at q;cases q
 refine k L R nm _ ⟨⟨?k ta,dx,_,Ab,?_,?_,?_,?_,?_,?k9,?_,fun M' e=>by cases e;exact ?bS (fun a o e=>by rw[X9 (Ap e (?mP))];exact s06 _ _ e) hv⟩,⟨O1,O2,O3,O4,z1.x DQ QO CF ?aD,z2.x DQ tE CF ?aD,g2 _ n1,g2 _ n2,g3 _ n3,g3 _ n4⟩,by rw[Al npn.symm];exact wN,s06,⟨fp,g2 _ nL,g3 _ nR,?mP⟩,⟨QO,tE,LR⟩,⟨hn,hw⟩⟩
 . rw[yI,hf3,hf2];ext bV
 . rw[yI,hf3,hf2];ext bV
 . rw[yI,hf3];ext bV
 . rw[yI];ext bV
 . ext bV
 . rw[yI,hf3,hf2]
   iterate 5 rw[An,?eI]
   rfl
 . exact qa6 ?d1 O9m
noncomputable abbrev Qx:Stmt:=top 71
theorem D7:?o [?aQ,"bases","lifts","parts","order","loop","gauge","filling",?c4,?a6] ?oO (Au Qx):=Bf
theorem cZ[?q](F:Ew K ?qS ?qS Qx f fd)[?p](NL:Has P w K mg ?f ?k1 ?fU 2 (HA K))(fS:Has P w K mg ?f "times" [?a6,?dF] 1 (cH K)):?sY ?oO (Uy K):=by
 refine ?tD D7;obtain⟨a,b,xs,us,ls,rfl,hL,N4,hb,hB,hok,kq⟩:=h;obtain⟨_,xu,z,hq,r⟩:=?fC
 refine⟨_,(Af (HK (N':=["piece"]) (cap:=?eC) (i:=2) ?bD ?e (by first | exact Or.inl rfl | exact Or.inr rfl) ?e ?A ?bH (?sV (?vO 0 VS)) ?L (fun _ _ _ _=>Se))
  (Af (Cn qb9 rfl (?tA Ca ?j) (?tP 3) (Ak (Cn qb9 rfl (?tA Ca ?y) (Ea (K:=K) (n:=4) ?e (Bm (?tP 4) (Bm (?tP 5) (Bm (?tP 6) (Bm (?tP 7) D9))))) (?w6 (?t9 E5 ?J) (fD (Cn qb9 rfl (Ol ?bG) (?v6 (?tP 8) (?tP 9)) (Ak (J7 (?v9 NL (?t1 (?vS ?r ?cO) (Aq fS hr (Aa ?dJ (?w0 ?cX))))) (J8 ?r ?cO Fe)))))))))
  (?vP ?r))),?_⟩
 ext G
 cases z;have xul:xu.length=xs.length:=?hG
 refine ?v8 (fun σ' H'=>Jp fun(D:Addr) ?e9=>Ed (σ'=[?M,?cZ,?d2,none,none,none,none,none,none,none]) ?d3 (?hJ) (H' D=?dL) (Fq H H' ws (?cS ?b6 [])))
 . ext eZ
   let A52:?F:=fun i ws τ G=>B6 ?d4 (G D=?dL) (Fq H G ws (?cS i [])) ?e4
   refine Cr (K:=K) (a:=a) (xs:=xu) A52
    (?uO ⟨rfl,fun i v e=>by simp at e⟩) (fun i ws τ G _ hz=>?uG hq) ?_ ?_
   . rintro i x ws τ G hx Du;ext a3;intro g Eo dd o Fc;have hi:i<xu.length:=?d8;have wl:ws.length=i:=by have:=dd.1;rwa [qk2]at this
     refine ?q9;have g1:?h G (?m5):=?v hE;refine⟨?oP,?a0,?v4 ?dD g1,Ab,?_,_,rfl⟩;rw[qu1];refine Fq.keep (H:=?m5) ((dd.same g1).snoc (g.free hE) Ab) fun c kvs _ e=>?_;rw[?hC]
     . exact e
     . rw[z,?oP]at e;cases e
   . rintro ws τ G ⟨g,Eo,dd,_⟩;rw[xul]at dd;exact ?tI ⟨D,ws,rfl,g,hD,Eo,dd⟩
 refine lO fun D ws H1 s1 nD hD dd=>?_;intro sq;refine ?v8 (fun σ' H'=>UK fun ?e9 ?m6=>B6 (σ'=?mQ) ?d3 (H' D=?dL) (Fq H H' ws (M5 ?b6 ls)))
 . refine(?vM b ⟨_,?t4 s1 hb⟩)
   refine ?cA (K:=K) (a:=b) (xs:=us) (fun i σ G=>UK fun ?e9 ?m6=>Ed (σ=?mQ) ?d4 (G D=?dL) (Fq H G ws (?gG)) (Zd ?b6 (?gG)))
    ⟨ws,_,_,_,_,_,_,_,rfl,s1,hD,dd,Zd.first _⟩ (fun i σ G _ hz=>by obtain⟨_,_,_,_,_,_,_,_,_,g,_⟩:=hz;exact ?t4 g hb) ?_ ?_
   . rintro i v σ G hv Du;revert σ;ext sE;have hi:=?e3;have h0:=hB.1;obtain⟨ps,hps⟩:∃ps,ls[i]?=?c ps:=?oX
     obtain⟨pa,pu,rfl,hpa,rP⟩:=hB.2 i v ps hv hps;have pok:=hok ps (qc6 hps);have pl:=rP.len
     have KI:M5 ?b6 (ls.take ?aR)=U5 (?gG) ps:=by
      unfold M5;rw[qg0,hps,qr5];rfl
     rw[KI];generalize ?gG=lf at dd cA;refine(?vM pa ⟨_,?t4 g hpa⟩)
     refine ?cA (K:=K) (a:=pa) (xs:=pu) (fun j σ G=>XU fun ?e9 (o2 o3 o4 o5 o6 o7:?aM)=>Ed (σ=[?M,?cZ,?d2,rS pa,o2,o3,o4,o5,o6,o7]) ?d4 (G D=?dL) (Fq H G ws (?gX)) (Zd ?b6 (?gX)))
      ?q1 (fun i σ G _ hz=>by obtain⟨_,_,_,_,_,_,_,_,g,_⟩:=hz;exact ?t4 g hpa) ?_ ?_
     . rintro j v σ G hv Du;revert σ;ext sG;obtain⟨p,hp,pv⟩:=rP.get hv;obtain⟨t,c1,c2,c3,rfl,et,e1,e2,e3,nec⟩:=pv.same g;have pk:=pok p (qc6 hp)
       have ejk:U5 lf (?d6 ?eL)=HY (?gX) p:=by
        unfold U5;rw[qg0,hp,qr5];rfl
       rw[ejk];generalize ?gX=lg at dd cA
       have e20:∃kvs,H c2=?c (.dK kvs):=by
        obtain⟨t',_,c2',_,q1,q2,_,q4,_⟩:=pv;cases q1;have:=g _ _ q2;rw[et]at this;ext hV;ext hV;injection this with _ this;injection this with _ this;ext hV;ext hV;exact⟨_,by rw[this];exact q4⟩
       refine⟨t,_,rfl,.of et,rfl,_,_,rfl,_,_,rfl,_,_,rfl,_,_,rfl,rfl,?_⟩;ext a9;ext a8
       . have h1:?h4:=?C
         have eP:HY lg p=p.2.2.1.foldl (lift1 ?eP) lg:=?R h1;rw[eP];have nDc:c2≠D:=fun z=>by rw[z,Eo]at e2;cases e2
         refine ?x ⟨c2,?gO,e2,?n0⟩;refine⟨_,rfl,c2,o,?gO,rfl,Ab,?_⟩
         refine Ui (d:=c2) (o:=o) (kvs:=?gO) (fun m σ G2=>Rs fun ?e9 (o6 o7:?aM)=>Kh (σ=[?M,?cZ,?d2,rS pa,?c (?d p.1),rS c1,rS c2,rS c3,o6,o7]) (G2 c2=?c (.frz o (.dK (?gO)))) (G2 D=?dL) (Fq H G2 ws (?g2)) (Zd ?b6 (?g2)) ((∀c q,c≠c2->c≠D->G c=?fN->G2 c=?fN)))
          ⟨ws,_,_,rfl,Ab,by rw[Al nDc.symm];exact Eo,?_,cA,fun c q n1 _ e=>by rw[Al n1];exact e⟩ (fun i σ G _ hz=>by obtain⟨_,_,_,_,e,_⟩:=hz;exact e) ?_ ?_
         . refine ?rC;rw[?hC]
           . exact e
           . obtain⟨_,q⟩:=e20;rw[z,q]at e0;cases e0
         . rintro m kk x σ G2 pp hx Du hpp;ext sF;obtain⟨q,hq,rfl,rfl⟩:=Yx hx;obtain⟨x0,x1⟩:=pk.gk q ?p5
           have emk:?uZ (m+1)=lift1 ?eP (?g2) q:=by
            rw[qg0,hq,qr5];rfl
           rw[emk];generalize ?g2=lh at dd cA;have wl:ws.length=xs.length:=dd.1.trans cA.1;have UZ:?h G2 (upd G2 pp (?t [?d q.1,?d q.2])):=?v hpp;refine(?tF pp);obtain⟨v,hv⟩:∃v,ws[?eS]?=?aC:=?oX
           obtain⟨c,rfl,nc,hc⟩:=dd.2 _ v hv
           have hat:e9 ws q.1=?c (?k c):=by
            have:=Bl hv
            ext sJ
           have nc3:c3≠D:=fun z=>by rw[z,Eo]at e3;cases e3
           have e33:=UZ _ _ (hk _ _ nec.symm nc3 e3);have lc:=cA.at ?eS;refine⟨_,rfl,_,rfl,D,ws,_,_,rfl,rfl,?t4 UZ dR,hat,_,rfl,_,rfl,q.2,c3,?eP,rfl,e33,qa6 pk.fl.len ?aY,pk.mul q ?p5,fun T G4 nT s4 hT=>?_⟩;refine⟨c,T,_,_,rfl,?u (s4 _ _ (UZ _ _ hc)),hT,qa6 lc.len ?aY,qa6 (pk.fl.times q.2).len ?aY,fun E G5 nE s5 hE=>?_⟩;have zO:=(UZ.trans s4).trans s5;refine⟨_,rfl,_,rfl,D,ws,_,_,rfl,rfl,?n4,by rw[wl];have:=Jk (l:=xs.length) (i:=?eS) O9m;ext sJ,?_⟩;refine⟨_,_,_,rfl,?_,Ab,?_,cA.lift1 pk.fl q,fun d r n1 n2 e=>?_⟩
           . rw[Al nDc];exact zO _ _ hc2
           . refine Fq.keep (H:=G5) ((dd.same zO).set ?_ hE ?eS) fun d kvs _ e=>?_
             . cases e:H E with
               | none=>rfl
               | some r =>
                 have:=(UZ.trans s4) _ _ (hk E r (?v3 hc2).symm (?v3 dR).symm (g _ _ e));rw[nE]at this;cases this
             . rw[?hC]
               . exact e
               . rw[z,?n4]at e;cases e
           . rw[Al n2];exact zO _ _ (hk d r n1 n2 e)
         . rintro σ G2 Du;ext sF;rw[Rk,qd9]at dd cA;refine⟨hc2,ws,_,_,_,_,_,_,rfl,fun c r e=>?_,by rw[Al nDc.symm];exact dR,?rC,cA⟩
           . by_cases z:c=c2
             . subst z;have:=g _ _ e;rw[e2]at this;cases this;exact Ab
             . rw[Al z];exact hk c r z (Ap e nD) (g _ _ e)
           . rw[?hC]
             . exact e
             . rw[z,hc2]at e;cases e
       . have h1:¬?h4:=?C
         have eP:HY lg p=lg:=?N h1;rw[eP];exact ?q1
     . ext f3;ext sG;rw[pl,qd9]at dd cA;exact⟨ws,_,_,_,_,_,_,_,rfl,g,Eo,dd,cA⟩
   . ext f3;ext sE;rw[hB.1,qd9]at dd;exact ?tI ⟨ws,_,_,_,_,_,_,_,rfl,g,Eo,dd⟩
 refine YU fun ws o1 o2 o3 o4 o5 o6 o7 H2 s2 Su dd=>?_;intro sq;exact⟨_,rfl,kq D ws H2 nD s2 Su dd⟩
noncomputable abbrev Mr:Stmt:=top 79
theorem Dn:?o [?pJ,?nV,?nO,?bE,?eG,?k2,?oB] ?rI (Au Mr):=Bf
theorem Zw[?q](F:Ew K ?nM ?nM Mr f fd)[?p](Lh:Has P w K mg ?f ?lA ?kC 2 (Np K))(Rf:Has P w K mg ?f ?jQ ?kP 1 (Rx K))[?s8]:?sY ?rI (Qa K):=by
 refine ?tD Dn;obtain⟨a,ns,kind,most,rfl,hS,hl,hm0,hm1,k⟩:=h;have dQ:=hr.u8
 refine⟨_,(Af (?tG ?cL Am)
  (Af (?v7 (?vV J9) (?tG ?cL (Lx Hm Am)))
  (Af (?v7 (?vV J9) (?tG ?cL (?w3 Am)))
  (Af (?tY ?cL ?cM)
  (Af (Cn qb9 rfl (?tA Ca ?j) (?vO 5 ?cL) (Af (Av (i:=6) ?cL (?v9 Lh (Aa ?J (Aa (Aq Rf hr (Aa ?bI (?t1 ?y (?w3 Am)))) ?hA))))
  (?w6 (Bh HQ (?vQ (?w0 ?bG)) ?r ?s) (?tY ?cL ?bG))))
  (Ak (Be (B5 (N':=[?c5,?bE,?eG]) (cap:=[none,?c 3,?c 4]) ?e ?A (?tA Ca ?J) (?sV (?vO 0 vR)) ?L (?sV (Dr (?w4 Kc) ?e ?p2 Ku (?w0 (B5 (N':=[?oC,?eG]) (cap:=[none,?h3]) ?e ?A (Ca (K:=K) (?v9 Gm ?c9)) (fun _ _ _ _=>(?vO 0 VQ)) ?L (fun _ _ _ _=>(Fw (K:=K) qc9 PySem.F.slot_list_index PySem.F.type_list_index (JV (K:=K) dQ) ?j ?V)))))))))))))),?_⟩
 ext G
 refine Gh (?tR [?gT,?M,?f9,iS 0,none,none,none] H) ?_ ?jI;ext f4;refine As (?tC H) ?_ fun Ab8=>?_;rotate_left
 . ext s0
   . exact⟨_,rfl,Ab8 _ _ ⟨-1,rfl,rfl,?cP⟩⟩
   . exact Ab8 _ _ ⟨0,rfl,rfl,?cP⟩
 refine SO fun A23 hf0=>?_;intro sq;refine As (?tC H) ?_ ?kS;rotate_left
 . ext s0
   . refine⟨_,rfl,_,_,rfl,rfl,?l6,_,_,rfl,rfl,(?tE 19),_,_,rfl,rfl,X1 _ _ ?nP⟩;have:kind / 18%19<19:=?jT;omega
   . exact X1 _ _ ⟨A23,rfl,rfl,hf0⟩
 refine SO fun fam hf=>?_;intro sq;have l1:0<=kind / 3%6:=?nC;have l2:kind / 3%6<6:=?jT;refine⟨?Z,fun W0 hW0=>?_⟩;have s0:?h H (upd H W0 ?d0):=?v hW0
 refine⟨_,rfl,a,rfl,⟨_,s0.seq hS⟩,?cA (K:=K) (a:=a) (xs:=?i8)
  (fun j σ H2=>bZ fun(W:Addr) (wu:?cE) (ws:Ar) (o5 o6:?aM)=>Nm (σ=[?gT,?M,?f9,?U,rS W,o5,o6]) ?bJ (?uA W) (H2 W=?t3 wu) (?a1 K H2 wu (?dA)) (iR fam ws) ((ws.length:Int)<=most))
  ⟨W0,[],[],?l,?l,rfl,s0,hW0,Ab,rfl,iR.nil,by simpa using hm0⟩ (fun j σ H2 _ hz=>by obtain⟨_,_,_,_,_,_,s2,_⟩:=hz;exact ?dX hS) ?_ ?_⟩
 . rintro j x σ H2 hx Du
   ext Y
   ext s9;have hjn:?rB:=?fE
   have hxv:x=?d ns[j]:=by
    rw[qa9,qa0 hjn]at hx;ext f6
   subst hxv;refine⟨_,rfl,_,rfl,_,rfl,_,rfl,_,_,rfl,rfl,?l6,_,_,rfl,rfl,(?tE 6),_,_,rfl,rfl,?_⟩;refine⟨_,_,_,rfl,O9m,O9m,O9m,fun v H3 w s3 tv hw=>?_⟩;ext f5;refine⟨W,wu,v,ws,w,fam,rfl,s3 _ _ WT,?X s3 rW,tv,hw,O9m,fun M mu H4 hM s4 hM4 rM=>?_⟩;have LH:=?j0;have hMH:?mT:=(?a2 s3).free hM;have mul:mu.length=(?m8).length:=?n9
   refine⟨_,rfl,M,_,rfl,?u (.of hM4),_,rfl,_,_,rfl,rfl,_,rfl,?_⟩;ext a8
   . have h2:(mu.length:Int)<=most:=?C
     exact⟨_,rfl,M,mu,?m8,_,_,rfl,?a2 LH,hMH,hM4,rM,Zi hO hw,O9m⟩
   . exact⟨W,wu,ws,_,_,rfl,?a2 LH,hW,LH _ _ WT,?X LH rW,hO,hwl⟩
 . rintro σ H2 Du;ext s9;have wul:wu.length=ws.length:=by have:=rW.length;ext D
   refine(?t6 W (?vN WT));have hDH:?hJ:=?iW hD
   let A51:?F:=fun i ys τ H1=>B6 (?h H2 H1) ?aV (?u7 ?n1 ?iV) (?t5 [o,?U,rS W])
   refine Cr (K:=K) (a:=W) (xs:=wu) A51
    ?aK (fun i ys τ H1 _ hz=>by ext cQ;exact ?t4 s1 WT) ?_ ?_
   . ext dP;ext a3;intro s1 Er r1 o Fc;have hi:i<wu.length:=?d8;have hil:i<ws.length:=O9m
     have hix:(?dA)[i]?=?c (tI ws[i]):=by rw[qa9,qa0 hil];rfl
     obtain⟨x',hx',tx⟩:=rW.get hix;rw[hx]at hx';cases hx';obtain⟨hwi,YH⟩:=hO.mem (qe8 hil);generalize hwe:ws[i]=w at tx hwi YH;refine⟨_,rfl,_,rfl,x,w,fam,rfl,?eQ s1 tx,hwi,fun p fu H3 hp s3 hp3 r3=>?_⟩;have ful:fu.length=?q6:=by have:=r3.length;ext D
     have s13:=?eU s3;refine⟨p,rfl,(?vN hp3),fun D2 Su=>?_⟩
     let A50:?F:=fun m zs τ H4=>B6 (?h H3 H4) (H4 D2=?f7) (zs=((?bR).take m).map (fun f=>?w ?pW)) (?t5 [o,rS W])
     refine Cr (K:=K) (a:=p) (xs:=fu) A50
      ⟨?v Su,Ab,rfl,?l,rfl⟩ (fun m zs τ H4 _ hz=>by obtain⟨s4,_⟩:=hz;exact ?t4 s4 hp3) ?_ ?_
     . rintro m y zs τ H4 hy Du;ext a3;intro s4 CA hzs o Fc;have hm:?nI:=?pF;have hmf:m<?q6:=O9m
       have hmy:(?mO tI)[m]?=?c (tI ?fH):=?mY
       obtain⟨y',hy',ty⟩:=r3.get hmy;rw[hy]at hy';cases hy';have hfm:?fH∈ws:=YH _ (qe8 _);have HH:=s13.trans s4;have rw4:Rep K H4 (?k W) (?i (?dA)):=⟨W,wu,rfl,?t4 HH WT,?X HH rW⟩
       have hfl:=(Ju hwi)
       have hzl:zs.length<=4:=by
        rw[hzs,qa2,qc4];have:=hfl.2;have:=hfl.1;split at this<;>omega
       refine⟨_,rfl,?u ⟨rfl,_,?t4 HH WT⟩,_,rfl,?dA,y,tI ?fH,bB ws ?fH,rfl,rw4,?eQ s4 ty,(by have:=Mb ws;omega),fV hfm,?_⟩;refine⟨CA,?a0,s4.turn Su,Ab,?_,_,rfl⟩;rw[qg0,?l2,qb1,hzs];rfl
     . rintro zs τ H4 ⟨s4,CA,hzs,_⟩;rw[ful,qd9]at hzs;have HH:=s13.trans s4;refine⟨D2,_,rfl,?u ⟨.of CA,?nQ⟩⟩;have s5:?h H4 (upd H4 T (?t zs)):=?v hT;have hD5:=(?jF (s4.trans s5)) _ _ Er
       have t5:TI K (upd H4 T (?t zs)) (?k T) (?iN):=by
        refine ?eY (.of ?_);rw[ql1,Ab,hzs];rfl
       ext sB
       refine⟨hD5,?a0,?v4 HH.trans s5,Ab,?_,_,rfl⟩
       have e2:(ws.take ?aR).map (?iV)=?n1 (?iV)++[?iN]:=by
        rw[qg0,qa0 hil,hwe,qb1];rfl
       rw[e2];exact Mx hD5 (?X (?jF (s4.trans s5)) r1) t5
   . rintro ys τ H1 ⟨s1,Er,r1,_⟩;rw[wul,qd9]at r1;exact k D ys H1 (Ml ws fam) hDH (?a2 s1) Er r1 (Zm hO) (by unfold Ml;rw[qa2];exact hwl)
noncomputable abbrev fB:Stmt:=top 8
theorem HG:?o ?eN ?qZ (Au fB):=Bf
theorem QL[?q](F:Ew K "fits" "fits" fB f fd)[?p][?lO](Ng:Has P w K mg ?f "faces_agree" [?aQ,?i2] 1 (N8 K))[?s7]:?tX ?qZ (HC K):=by
 refine ?tD HG;obtain⟨a,th,d,xs,rfl,hL,hd,k⟩:=h;obtain⟨f9,d8,Zr⟩:=T.x_FACE_COUNTS;have dQ:=hr.u8
 refine⟨_,(Af (?w8 ?fI (cT (?vK ?j (Gy (v:=.ty "tuple") rfl ?p2 Ku rfl)) (Xb (Bh ?hN (?vQ ?a4) (Jj (v:=?k f9) ?e d8 rfl) rfl))))
  (Af (Av (i:=2) HG.nd (?v9 Fk ?a4))
  (Af (?w8 Ht (?w5 Gw (B5 (N':=["face",?aQ,"level"]) (cap:=[none,?gI,?h3]) ?e ?A (?tA Wc ?j) (?sV (?vO 0 Aa6)) ?L (?sV (?v9 Cy (Aa ?j (Aa ?g (Aa (Bp K9 ?r Am) Ae))))))))
  (?vP (ZV (M1 Sf ?r Am ?s) (M0 (?v9 Ng ?c9))))))),?_⟩
 ext G
 refine⟨_,rfl,_,_,d,rfl,.inr (.inr (.inr (.inl rfl))),hd,_,rfl,?_⟩;cases d with
 | non=>ext dQ
 | bl b=>ext dQ
 | int i=>ext dQ
 | str z=>ext dQ
 | lst es=>ext dQ
 | tup ds =>
   obtain⟨pa,us,rfl,hq,r⟩:=id hd;have ul:us.length=ds.length:=r.length;refine Nv (by simp[iB]) ?_;refine⟨_,rfl,pa,us,rfl,?x hq,?d ?m9,Fg [0,2,3,4],rfl,?x ⟨_,_,rfl,Zr H,Gi.mpr rfl⟩,(by rw[Pp];decide),_,rfl,?_⟩;rw[ul]
   have cnt:(! ?pD ?mD)=! ?gE:=by
    have:?pD (?mD)=?gE:=by
     simp only[Fg,qd5,qt5,qm2,List.any_nil,eqD,BS];rw[qm0];simp only[qq1,qv6,Bool.or_false];omega
    rw[this]
   by_cases hc:?gE=true;rotate_left
   . have hc':?gE=false:=by simpa using hc
     refine bA (by rw[?aO,cnt,hc'];rfl) ?_;have e2:?pV:=by rw[Po];simp[hc']
     rw[e2]at k;ext dQ
   refine Nv (by rw[?aO,cnt,hc];simp) ?_;have hn4:ds.length<=4:=(RV hc).1;refine⟨_,rfl,_,ds,rfl,?x hd,?_⟩;refine(?t6 pa ?kO)
   let A49:?F:=?vX (ys=((ds.take i).map fun e=>V.bl (?r1))) [o,?M,?vA (?dG)]
   refine Uo (K:=K) (a:=pa) (xs:=us) A49
    ?aK (?t8 ?k8) ?_ ?_
   . ext dP;ext a3;intro s1 Er hys o Fc;have hi:i<us.length:=?d8;obtain⟨e,he,re⟩:=r.getV hx;refine⟨_,rfl,_,rfl,_,rfl,_,_,rfl,rfl,a,x,e,_,xs,rfl,?mV,?bS s1 re,?_⟩;refine⟨Er,?c6 (by rw[hys,qa2,qc4];omega),?eF,Ab,?_,_,rfl⟩;rw[qg0,he,qb1,hys];rfl
   . rintro ys τ H1 ⟨s1,Er,hys,_⟩;rw[ul,qd9]at hys;have Av2:ys=(ds.map ?eR).map V.bl:=by rw[hys,ql1];rfl
     rw[Av2]at Er;refine⟨D,_,rfl,?jJ,_,rfl,?_⟩;have Ag1:(ds.map ?eR).all id=ds.all ?eR:=by rw[List.all_map];rfl
     by_cases ha:(ds.all ?eR)=true;rotate_left
     . have ha':(ds.all ?eR)=false:=by simpa using ha
       refine bA (by rw[Ag1,ha'];rfl) ?_;have e2:?pV:=by rw[Po];rw[ha',hc];rfl
       rw[e2]at k;exact ?dV
     refine Nv (by rw[Ag1,ha];simp) ?_;have e2:?p7=(?I (?dG<2) || Lj xs (ds.map sQ)):=by rw[Po];rw[ha,hc];rfl
     rw[e2]at k;ext a7;ext a8
     . have h2:(?I (?dG<2))=true:=h1;rw[h2]at k;exact ?dV
     . have h2:(?I (?dG<2))=false:=?C
       rw[h2]at k;have hint:=EF ha
       have tv:TI K H1 ?rA (ds.map sQ):=by
        have:=?bS s1 hd;rw[hint]at this;exact this
       refine⟨_,rfl,_,rfl,a,_,xs,ds.map sQ,rfl,?mV,tv,by simpa using hn4,?_,?dV⟩;intro f hf;rw[qe9]at ha
       have hm:L2.D.int f∈ds:=by
        rw[hint];exact qf8.mpr ⟨f,hf,rfl⟩
       have:=ha _ hm;simp only[De,qc3,qo5]at this;obtain⟨⟨f0,f1⟩,f2⟩:=this;refine⟨f0,f1,?_⟩;rw[qa2];rw[AX,AX]at f2;have h3:¬?dG<2:=?aE
       rw[AX]at h3;omega
noncomputable abbrev Tr:Stmt:=top 13
theorem eY:?o ?jV ?jV (Au Tr):=Bf
theorem fH[?q](F:Ew K ?rR ?rR Tr f fd)[?p][?s7][?lP]:?tX ?jV (Wr K):=by
 refine ?tD eY;obtain⟨a,xs,k,p,n,rfl,hL,kq⟩:=h;refine(?v5 (K8 (Aq Cy hr (Aa ?g (Aa ?r ?a4))) (K8 (Aq Fl hr ?hA) (M0 (M1 Lz ?y Am ?s)))));refine⟨_,rfl,_,rfl,_,rfl,a,?d p,?d p,k,xs,rfl,hL,rfl,_,rfl,?_⟩;ext hT
 . refine⟨_,rfl,_,?d n,rfl,rfl,_,rfl,?_⟩;refine bA rfl ?_;refine ?nP
   have e2:?nD=! ?I (?w n=?w 0):=by
    unfold Nt;rw[e];by_cases z:n=0
    . subst z;simp
    . simp[z]
   rw[e2]at kq;exact kq
 . have e2:?nD=false:=by unfold Nt;simp[e]
   rw[e2]at kq;exact kq
noncomputable abbrev Fv:Stmt:=Eb ?mE 4
theorem D8:?o [?aP,"i","first","j","at","quotient"] ?o1 (Au Fv):=Bf
theorem Op[?q](F:Ew K "shrink_row" "Stairs.shrink_row" Fv f fd)[?p](Cq:Jd P w K mg ?f Ad ?d5 ?gQ 3 (?vC Jy)):?tX ?o1 (?vC Jx):=by
 refine ?tD D8;obtain⟨H0,p,q,M,n,W,t,cnt,s,i,f,rfl,x,hi,hf,hif,hds,ok,k⟩:=h;obtain⟨oX,OW,sm3⟩:=x.sm;obtain⟨r,b,lx,_⟩:=x.ex;obtain⟨dx,fs,hp,l1,l2,l3,l4,l5⟩:=lx.ob
 refine⟨_,(Ak (Cn qb9 rfl (l8 ?e ?aN (?t1 ?r (?vQ (?w0 ?W)))) (?vO 3 D8.nd) (Af (?tY D8.nd (?vS ?W ?y))
  (Af (Av (i:=5) D8.nd (Bp Ka (?v2 ?j) (?v2 ?y)))
  (?w6 (?t9 Lz ?bI) (Br (Df ?g ?cW Cq hr (?w0 (D5 (Aa Mz (Aa ?j (?t1 ?y (Lx Hm ?bI))))))))))))),?_⟩
 refine⟨_,rfl,_,rfl,p,Ad,dx,fs,_,rfl,hp,?cW,?qR,l3,q,_,rfl,?u (.of x.st),(f:Int),(cnt:Int),?qG,O9m,?_⟩;rw[show(((cnt:Nat):Int)-?nE).toNat=cnt-f by omega];clear lx hp l1 l2 l3 l4 l5;refine Cs (lo:=(f:Int)) (n:=cnt-f) (fun d σ G=>Rs fun o3 o4 o5=>σ=[?aW,?aI,iS f,o3,o4,o5]/\?tW G (?fK)) ⟨?l,?l,?l,rfl,x⟩ ?_ ?_
 . rintro d σ G hd Du;revert σ;refine tR ?_;intro o3 o4 o5 y Fc;obtain⟨r,b,lx,_⟩:=y.ex;obtain⟨dx,fs,hp,l1,l2,l3,l4,l5⟩:=lx.ob;obtain⟨as,xa,na⟩:=lx.rw;obtain⟨h1,h2,h3⟩:=hds ?b3 O9m O9m;have bo:=ok d O9m;have ej:?nE+((d:Nat):Int)=((?i9:Nat):Int):=O9m
   rw[ej];have hji:f+d≠i:=O9m
   have er:(?fK).1 ?b3=s.1 ?b3:=Wz t i f s d _ hji;obtain⟨ci,_,lJ,_,kE⟩:=?r3;obtain⟨cj,_,yL,_,hcj⟩:=?tA ?jE (show f+d<n by omega);rw[er]at hcj;refine⟨_,rfl,p,Ad,dx,fs,_,rfl,hp,?cW,?qR,l3,_,rfl,q,_,_,_,rfl,rfl,.of y.st,Bl (Ch O9m),?_⟩;refine⟨_,rfl,p,Ad,dx,fs,_,rfl,hp,?cW,?j2,l1,_,rfl,r,_,_,_,rfl,rfl,.of xa.2.1,Bl lJ,_,rfl,ci,_,_,_,rfl,rfl,kE,?m4,_,rfl,p,Ad,dx,fs,_,rfl,hp,?cW,?j2,l1,_,rfl,r,_,_,_,rfl,rfl,.of xa.2.1,Bl yL,_,rfl,cj,_,_,_,rfl,rfl,hcj,?m4,_,_,rfl,rfl,Uu.of9 O9m h3,?_⟩;have hsx:∀G',?tW G' (Lat.addS i ?b3 (-(?fB)) (?fK))->?tW G' (?n2 t i f s (d+1)):=fun G' z=>z.re (by rw[Lat.shrS,er]);have hq:(?fB).natAbs<2 ^ big:=Lat.fdiv_small h2 (?cY i _ hi h1);refine As (fun σ' H'=>σ'=[?aW,?aI,iS f,?c (?d (?i9:Int)),?c (?d ((t ?b3:Nat):Int)),?vA (?fB)]/\G=H') ?_ fun key=>?tI ⟨by rw[←qg8 _ (Int.le_of_lt h2)];rfl,rfl⟩;ext hW;generalize ?fB=qq at hsx hq;ext a9;refine ?mB
   . refine⟨_,rfl,p,dx,fs,rfl,hp,l4 _ ?dW,_,rfl,_,rfl,_,rfl,_,rfl,?aX,?iQ⟩;have s1:?h G (?jG):=?l1;have hT:Rep K (?jG) (?k T1) (pA (?o6)):=?pI
     generalize ?jG=G1 at s1 hT;refine⟨p,?k T1,Ad,r,b,_,n,W,_,_,?o6,rfl,?x rfl,lx.keep s1,hT,⟨hi,O9m,fun z=>hji z.symm,fun c hc=>Sk (by rw[qc2];exact hq) (?cY _ _ O9m hc) ?aY⟩,⟨O9m,hi,hji,fun c hc=>Sk (by rw[qc2,qc2];exact hq) (bo.2 _ _ hi hc) ?aY⟩,O9m,O9m,fun r' b' G2 sx n1 n2 z=>?_⟩;exact⟨_,_,_,rfl,hsx _ (y.redo s1 sx n1 n2 z)⟩
   . have h5:qq=0:=?iJ
     subst h5;exact⟨_,_,_,rfl,hsx _ (y.re (Lat.addS_zero _ _ _).symm)⟩
 . ext f3;refine tR ?_;intro o3 o4 o5 y Fc;exact k _ y
end
mutual
#check(4,[?a,?b,some,.ref,base,.int,(fun key=>?_),Same,none,(by rfl),(pv 0),rS p,rS a,(pv 1),.lst,T.cl_Work,(pv 2),.inl,spot,.(by decide),T.cl_Stairs,.(by decide +kernel),(pv 3),Rep.same,(?sC El ?B),Same.new,W.findIn,(fun _ _=>rfl),fun Ds A outer s H vs Q E hr h=>?_,"shape",F.okZ,FnScope,.tup,∀(T:?nQ),a,∀{f:Addr}{fd:FuncData},a,rS D,putF,.inr,.ins,.(by infer_instance),(?sC G9 (fun _ _ _=>rfl)),(?sC Hk (?q9)),"self",(?sE Ba ?k),"table",rS tp,rS la,rS ga,(pv 4),.(by exact nomatch hl),(k:Int),?c ?i,(Bn _),iS k,(Az (K:=K)),if_neg,[?Q],V.ref,T.n_len,(i:Int),(?w0 ?n),"width",⟨_,rfl⟩,(Bc (K:=K)),Ct.nd,V.int,cK ms,s1.trans,.(by ((repeat (first | rw[An,?dT] | rw[An,?gE]))<;>first | rfl | assumption)),Co xs (?bF),?c (?f ?hG),(by ext v),.of Ab,T.na_Stairs_rows,R.same,l.prog,rS c,(Bj (K:=K)),?uC ?fF,T.n_range,T.cl_Book,?c o,(by kernel_rfl),if_pos,(pv 6),(?w5 ?R ?n),(?d Ah),Dm.nd,T.cl_Lines,(?w0 Am),?c (?f ((?cW:Nat):Int)),B9 ?f1,(?t),(?dC),small,rS ta,?c (?jX),List,(?uF ?q),?r rfl,"turn",?f (?f3),"thing",?Y+1,rS nn,Nat->?cV->St->Hp->Prop,Lat.Mat × Lat.Mat,W.keepIn,[?Q,"k"],"__init__",(?w0 ?q),Reps.same,[(pl,1)],(fun _ _ _ _=>Cb),fun D hD=>?_,Co xs 0,H=H',SameX,(?w0 ?cU),.(by ext cE),"blend",qa8 _,"left",(?w5 ?R ?q),?f (j:Int),?b6 O9m,T.na_Work_table,(?d Ad),"law",T.na_Work_numbers,rS tl,(?w0 ?R),(?d Aj),.(by simp),Ob.nd,.of ?eZ,R.same.seq,.(by refine Nn ?_;intro sq),.(by simpa using h1),s.1 i (?cK),Nat->St->Hp->Prop,decide,qa0 hi,T.na_Work_left,t ?s,?c (?f ((V0 ps:Nat):Int)),(L3 (K:=K)),"_law_script",?c 1,x.same,.(by ext dE),(?h4),"pieces",(?cW),(pv 5),?b9 V,Co xs k,(?w0 ?k),(w+n),?a3 (fun z=>?j7 (z▸hm) ?aJ),?uC (0+?a7),?uC ?f9,s.1 ?s (?cK),rS tg,g.trans,?uM us,T.na_Stairs_starts,mainGlobals,Nat->Int,K.lookup,s2.trans,?z hT1,spot+1,.(by obtain⟨dx,fs,hp,l1,l2,l3,l4,l5⟩:=lx.ob),.(by simpa using h2),R2.same,Lat.one,?o ?g9,fun a ha=>?_,Lat.turnL,?d D2,⟨_,rfl,?_⟩,R.free,R3.same,.cons,Al JR.symm,(?vZ Nr),"place",(pv 7),?aV rfl,(Io m f),rS fi,?uC ?Y,l4 _ ?aJ,"number",(Aa ?k ?a8),H a=none,?c (?f ((?aH:Nat):Int)),?o [],?d T1,SameX.upd,as.map ?a5,[?Q,?bC],T.n_list,xs.getD,(?d Aw),Ez xs (k-1),[?Q,?kL,?j3],[?Q,"i"],Cl.nd,[?bE],[?Q,"i","j","one",?fC],T.na_Work_right,"papers","list","right",(show spot<n by omega),.(by obtain⟨tva,fZ,FT,hpa,l1a,l2a,wC,yE,tU,YD,l7a,_⟩:=x.ob),∀(Cu:Has P w K mg ?e ?pJ ?g0 2 (Hn K)),a,.(by rw[?oL]),.(by rintro σ G Du;revert σ),∀{α:Type}{P:?b9 α->Prop},a,.(by refine Nv ?f1 ?_),∀(us:?b9 α),a,(?h0),"parts_of",YA _ _ Eo,"__setattr__",?a3 (by omega),σ'=[?l,none],PW.pt,xa.2.1,Sv d f l r,(?c9),"lifts",?pH f k0 i,(k0:Int),(Lat.addS i j 1 l),SameX.of,fun a=>a=nm,"is_chain",(m:Int),[?cN],"first_misfit","other",?x s1 hL,(top 63),(w:Int),(?d a),fun T1 hT1=>?_,(?iR),PySem.W.plainOver,(D:Addr),R.same.trans,(?uA ?c7),[?D,"k",?bE],"border_table",(Ba (K:=K) (Ba (K:=K) ?q)),"is_chain_of_some_level",PySem.W.hasDictIn,i+1+j,((spot:Nat):Int),⟨rfl,?_⟩,?d ga,"stepped",upd G e (.dK (cK ?bO)),?lE i,(?eA).length,[?S,?a9],"diagonal",Option,[?D,?bE,"bound"],(?s6 Jy),?t0 (?lM "object.__setattr__"),(i+1),(?c M),((?cK:Nat):Int),(xs.map tI),"border",W.fnOf,(?gH).length,?d F,?a3 ?aJ,[?f g,?f a,?f b],(pP i j g a b f r),Ez xs k,"row","bases_of",.func,(?z tF).turn,PySem.W.makesIn,?b6 (by rw[qa2];omega),(H' D=?c (?e2)),?g2 L2.V,PySem.W.plainGet,[?D,"k"],q.1=0,W.codeIn,(?d F0),W.nsIn,?i7 g2,?e4 (SameX.refl _ _),"chain",?z hp,?uW B,?sE xa.row hi,(?s6 Lq),a=q\/N a,?uW H,.none,fun z=>?_,(?uF ?cU),Str.empty,(?e3),"is_shape",.(by refine ite2 (fun h1=>?_) (fun h1=>?_)),.(by replace hrep:=hrep _ rfl),.(by exact fun z=>nomatch z),⟨?j4,Ab,rfl,?i,rfl⟩,?tZ H3 [?iQ,?c0,?jX,?f ?oV],(z:Int),Co xs ?Y,?tR O9m,?d la,T.n_isinstance,fun r' b' G2 sx n1 n2 z=>?_,pL _ _ _,?s4 ⟨rfl,s1⟩,T.na_Lines_backs,fun(k:Nat)=>Ni xs ?Y ms,"put_in_order",(us:?cV),.(by simpa using h4),[?Q,?bE],?L rfl,qa6 (Ff _ _ _) N4,[?S,?a9,"lines"],?c (?f (n:Int)),(x.same.trans s1).free,(?iU hv).1,x3.tup,(TA.of R hcl).same,s0.free,[?D,?gY],(st:Int),(as:?r5),"told",g1.trans,tY _ _ Eo,W.isFn,?tZ H [?iQ,?jX,?c0,?f 1],.(by rw[mX];exact h3q),.(by split<;>omega),(gp:Int),(s:?bI),"meet",Nv ?b4 ?_,?tZ H [?iQ,?f i,?f ?s,?f (-kk)],[?Q,"i","j"],.ad i ?s (-kk),fun a ha z=>?_,"straighten",.of x.nu,"loops",sG.trans,[?jZ,?pC],.str "add",σ'=[?l,iS i,?uC ?fT],ms.getD i (0,0),upd H4 p (?sY E),qa3.mp,(K w.params).In,"share",fun Rc=>Rc _ _ ?qK,"shrink",[?D,"k",?eH,?iN,?jK],"spot",List.range,[none],"backs",?z hD,T.na_Work_width,(z▸R.free),absurd,(pv 12),U m M l r,Xw ?s i (?d2) (?cF) g a c s,?jW i 0,[?Q,?j0,"i"],"count",⟨T1,_,rfl,?aK,⟨_,_,rfl,rfl,_,_,rfl,rfl,_,_,rfl,rfl,_,_,rfl,rfl,rfl⟩⟩,fun C hC=>?_,.(by rw[Ab];rfl),T.na_Stairs_backs,T.na_Lines_rows,?cF / ?d2,"gauges","step",Io m ?l3,fun m hm=>?_,x4.tup,upd H1 c (?o us),?uJ G l,Mc xs ms i,σ'=[?l,iS ?s,iS i,?uC ?g8,?uC (?d2),?uC (?cF)],"put_in",upd H5 p (?vG E),.(by rw[Bq];omega),(?gH).getD,?f ?a7,fun E hE=>?_,(?cS,?d P),"many",(?pU,s.2),?x L4 hrep,T.na_Book_pieces,?dA s3,nb a ha,Jg xs (?bF),.(by rw[qb1];rfl),R4.same,?d ta,g _ _ hp3,s1 _ _ hp,(Gd Ae),R2.same.free,"twists",(Ak Sb),upd (upd G1 BJ (.own L')) L' (?M Ah BJ []),(t:?mL),?tZ G3 [.str "minus",?f ?fT],R.push,Str->?g2 Value,"rows",R2.same.trans,Rows.nil,.(by obtain⟨tv,dx,fs,hp,l1,l2,l3,l4,l5,l6,l7,hrep⟩:=x.ob),.(by refine Nv (fun z=>nomatch (show false=true from z)) ?_),∀(Bo:Has P w K mg ?e ?qF ?gR 2 (Dt K)),a,.(by refine(?t7 p)),∀(Dl:Has P w K mg ?e ?o9 ["k","bound"] 3 (F8 K)),a,.(by obtain⟨r1,b1,r2,b2,lx,ly,f1,f2,f3,f4⟩:=x.li),.(by refine⟨P,_,rfl,?r (.of hP),?_⟩;rw[qa2]),.(by rcases ho with⟨_,q⟩|⟨_,q⟩<;>cases q),.(by refine Ig ?r0;intro sq),.(by obtain⟨Lo,Hg⟩:=T.x_LEVELS),.(by exact ?nB),.(by obtain⟨as,xa,na⟩:=lx.rw),.(by obtain⟨oX,OW,sm3⟩:=x.sm),.(by refine NC ?_;intro o1 y Fc),"Work.share",fun k=>if k=i then g else f k,?l9 (z-k0) (?aD 0),.(by simpa using h3),s1 _ _ hb,.of xp.2.1,st _ _ (?vE (?aM _ _ e)),List.replicate,sE _ _ BG,"Work.put_in_order",?tR h1,(?nC).length,(V9 ps).take,fun F hF=>?_,[?l,o1],(j7 K Aw),(.own p),?sU xs.length,ite2 (fun h4=>?_) (fun h4=>?_),upd H1 B (?o (bs.map ?a5)),.builtin,Lat.insT,?g8<=?i4,xb.there.2,"Stairs.put_in","without_borders",(Ap (?vE hD) R3.free).symm,fun i=>r.1 (k0+i),?e8 ?pM [],Io m (VA i j g f),((0:Nat):Int),(?nU sG1),.(by have:=pl 0;omega),⟨_,rfl,?t,?t,?_⟩,.(by rw[qc0,hcl];rfl),"Stairs.meet",R.same.free,(Fj ?dS),ite2 (fun h2=>?_) (fun h2=>?_),⟨hW.1,fun i v ps e1 e2=>?_⟩,?dO ?aA (?dO ?aA (?dO ?aA (?dO ?aA (.nil)))),[none,?cO],ys.length<=40,m5 _ ?aJ,["hole"],l6c _ ?aJ,upd H1 l1 (?o [?f 0]),[?m,?a1,?T,?U,?V,?aI,?b2,?bG,?c6,?d3,?dV,?J,YC,yC,YB,VN],"Work.straighten","Lines.blend",(z.same pU).there.1,tI xs[i],us++[?d t],(o2 o3:?gP),fun hnd o=>?_,Nat->Nat,?cH (p.1=0),⟨[],rfl,rfl,?kN hD,?i,rfl⟩,b*f j / g,?sD G' s',upd H5 p (?tX Lf),l6 _ ?aJ,(?G []),.of y.st,?K ?S (?a5 E) fs,lx.nn a ha e,(Ww K Aw),[?d D,?d L'],"_law_shape",(e▸ha),[?gI,?a9],"_law_shape_by",H4 a=?aT,Lat.ChainTo,(?dG,Lat.one),hW.2 i v ps e1 e2,fun c hc=>?_,"_law_whole",qa6 (Ff ..) N4,(?p8:Int),Lat.downS t i s d,?s4 ?qK,?K ?bY (?a5 L') (?mU),(z.symm▸y.mq),(?e8 pl.toNat []).length,(?mU).length,fun c hc=>hb.1 c O9m,Qc Kx T Sr Wd,.of x.st,(?f9-(?a7+1)).toNat,"shrink_row","_law_lots",ok.hd j O9m hj2,H0 a=none,s3.trans,"add_faces",Fp K mg Ah Ad Aj Aw,Lat.moveS i ?s s,(?c ?fF),OY _ _ Eo,XZ.trans,"start_of",?s4 ⟨rfl,fun a ha=>by rw[Al ha,Al ha],Ab⟩,?f0/\?jQ,"numbers",xb.there.1,(ls:?b9 (?b9 Bv)),⟨rfl,fun i v ps e=>by simp at e⟩,"Stairs.shrink","chain_of",?gB ?c4 ?c4 (Ic R9) (Ga R9) (Au R9) ?h5 TU uA sX UC OE UA,(o4:?g2 V),T.n_enumerate,lx.keep s1,upd H1 D (.dK []),"check_level",h.Ns ?d7 mg,Ie.binds (ps:=?eB) ?O,L4.seq hq,g.turn hD,?aM _ _ hp,na a (ma a ha),Kx.binds (ps:=?e6) ?y,g3.trans,(spot<=i),(VI m f).set i (?f g),G5 c=?aT,.(show((k+1:Nat):Int)=?bF by omega),m4 _ ?aJ,?c (?bD),s7 _ _ hc2,o3' g' a b sh,(P:Addr),(?iU hq).1,(?fY).filter,e9 lu k=?c (?d E),"levels",(-(?mO)),(?k5).2.2,⟨O9m,O9m,O9m,fun c hc=>AV ?b4 ?b4⟩,fun hS G1 s1=>?dL,fun H1 s1=>?dL,g2 _ _ rJ,(z▸y.mq),"Book.count",Oq Jo T F9 Hw,"Work.step",Lat.Shares,⟨?i,rfl,x⟩,(?iU hx).1,(us.length:Nat),"Book.twists",nb a (mb a ha),YD _ ?aJ,(?oU,?d Lv),upd G p (?G [?f i,v]),i<ms.length,"Lines.__init__",Int.dvd_of_emod_eq_zero,Lat.numAt,upd G' p (?G [?f i,?bD]),"flipped","numbers_at",Lat.beside,q.1.toNat,upd G1 c (?tC ?c),(?kM ZN),fun p=>Nt xs k p.1 p.2,(if ?fF<?n9 then ?fF else ?n9).toNat,Heap->Prop,H1 a=none,(xs.length:Int),fun x a=>s.1 x (w+a),sp.trans,(?nO pU),((i:Nat):Int),fun P H2 nP s2 hP=>?_,.ad j i ?oV,fun g' a b G' sh z'=>?_,"lifts_of",Jo.binds (ps:=?eF) (?sC NS (fun _ _ _ _ _=>rfl)),fun iE=>?_,?gV K ?d7 s,"_law_found",(YC yC YB VN:?g2 V),upd H3 T1 ?mS,["parts"],fun _=>rfl,fun X1=>?_,(cL K Aw),(?k5).2.1,"_law_cell_at",T.na_Book_levels,"places_of_level","is_table",(?j1 i).map,"Lines.turn",.(show((k.toNat:Nat):Int)=k by omega),⟨rfl,rfl⟩,fun j hj1 hj2=>?_,(I ?s s),.(by have:=r.length;simpa using this),upd (upd H2 OZ ?lI) p (?M Ad OZ []),xs.take i,x.keep s1,?uH H',"Book.__init__",base.Ns ?d7 mg,fun tp htp=>?_,.ad i j 1,"is_straight",upd G6 T1 ?mS,x4.right,"is_list_of_few",fun H1 s1=>?_,x.fr.2.2.2,vC _ _ x.nu,fun G' z=>?_,a=nm\/a=r2'\/a=pB,?b9 Addr,?pL w M P,"is_part",VI z (?pH f k0),(?nU sG6),"product",.(by rw[Pj]),.(by rintro i v ys τ G hv Du;revert τ;refine Ij ?_;intro g Eo yl o Fc;obtain⟨q,hq,pv⟩:=rE.get hv;obtain⟨t,c1,c2,c3,rfl,et,_⟩:=pv.same (sB.trans g);have KI:?lE ?g6=?fY++[q]:=by rw[qg0,hq];rfl),.(by obtain⟨p,k,B,xs,ls,rfl,bk,sB,hk0,NI,kq⟩:=h;obtain⟨Lo,Hg⟩:=T.x_LEVELS;obtain⟨dx,P,Lv,Lf,lu,wu,hp,_,oY,hW,_,_⟩:=bk.ob;obtain⟨E,eu,qs,e1,e2,hE,rE⟩:=hW.at (k:=k.toNat) (by have:=bk.n4;rw[qa2];omega)),.(by refine⟨_,rfl,k,4,rfl,hk0,NI,?_⟩;refine⟨_,rfl,p,Aw,dx,_,_,rfl,sB _ _ hp,?aS,?qE,rfl,_,rfl,Lv,lu,_,_,rfl,rfl,?sF sB oY,hat,E,rfl,⟨_,?sF sB hE⟩,?bQ⟩),.(by obtain⟨r',b',ly,_⟩:=y.ex;obtain⟨OZ,fs',wM,_,_,_,l4',_⟩:=ly.ob;refine⟨_,rfl,p,OZ,fs',rfl,wM,l4' _ ?aJ,_,rfl,_,rfl,_,_,rfl,rfl,?_⟩),.(by rw[qa9]at e2;obtain⟨ps,hps,rfl⟩:=qj9.mp e2;have hpl:=(bk.lev _ _ hps).len bk.len;have nl:(V9 ps).length<=ps.length:=qg6 _ _;have el:=rE.len),.(by refine ?s2 (?vW [?m,?l,?aO,rS q,?d0,?cL,o6,o7] ?h0)),.(by refine⟨sF _ _ R.at,?gN,cs++[F],?k7,?m0,?_,_,rfl⟩;refine ?kJ hF sF ?_),.(by rintro i x zs τ G1 hx ⟨cs,rfl,hcl,R,o1,rfl⟩;have hi:i<n:=by have:=?p7;rw[qa2,xa.1]at this;exact this),.(by refine⟨_,rfl,t,_,_,_,rfl,rfl,.of et,rfl,rfl,_,rfl,?_⟩;refine ?m4),.(by refine⟨g,Eo,?_,_,rfl⟩;rw[KI,qh4,qj6,?tD ?a3,qo1,qp9,yl]),.(by obtain⟨i,hi,rfl⟩:=qh5 ha;obtain⟨z1,z2,z3⟩:=R.row i _ (?cI)),∀(Ce:Jd P w K mg ?e Ad ?nK [?Q,"i","first"] 4 (?s6 Jx)),a,.(by exact⟨?bX,fun D hD=>?s4 ⟨D,rfl,?j4,hD,Ab⟩⟩),.(by obtain⟨tvc,dxc,fsc,hpc,l1c,l2c,l3c,l4c,l5c,l6c,l7c,_⟩:=z.ob),.(by obtain⟨c,_,ec,_,hc⟩:=?h1;rw[ec]at hx;cases hx),∀(Cq:?vB Ad),a,∀(Ke:Has P w K mg ?e ?rA ["one",?fC,?a9] 3 (Qr K)),a,.(by rintro zs τ G1 ⟨cs,rfl,hcl,R,_⟩;rw[qa2,xa.1]at hcl),.(by revert σ;refine tO ?_;intro us YC yC YB VN g Eo rU Fc),.(by obtain⟨cs,_,_,R,_⟩:=hz;exact ?cC (.of xa')),.(by obtain⟨g,_⟩:=hz;exact ?sF g (sB _ _ hE)),.(by rw[qi6 (by rw[qa2,xa.1];exact hi),qa2,xa.1];omega),.(by rw[qi6 (by rw[qa2,xb.1];exact hi),qa2,xb.1];omega),.(by rwa [?qJ]at this),.(by have:ps'=ps:=qd3 (e.symm.trans hps);subst this),.(by refine⟨_,rfl,la,lu,rfl,?r hlq,?_⟩;rw[WN]),@(qw5 ?a ?g ?_),@(Aa ?a (Aa ?b Ae)),@(key _ _ ?a),@(fun _ _ _ _=>?a),@(?a K Ah Ad Aj),@(fun F=>?a F T ?b),@(fun F=>?a F T),@(?r ⟨rfl,_,.of ?a⟩),@(?K ?bY (?d L') (?K ?S (?d ?a) fs)),@(fun i zs τ G1=>E4 fun cs=>B6 (zs=cs.map ?a5) (cs.length=i) ?a (E4 fun o1=>τ=[o1,?aQ])),@(fun _ _ _ _ _ _=>?a ?b),@(SX Ad H0 ?a p q M n W t i ?b),@(?a (K:=K) ?b),@(.of (?a _ _ ?b)),@(?a K ?b=true),@(Bb ?a2 ?a6 qh1 (Aa ?a ?b)),@(Cr (K:=K) (a:=r) (xs:=?e5) ?a ?b (fun i zs τ G1 _ hz=>by ext rV) ?_ ?_),@(?G [?bD,?d lp,?d gp,?d ?a]),@(Ht (Gw (Aq ?a hr ?b))),@(Gh (fun σ' H'=>σ'=?a/\?bS) ?_ ?iX),@(qi1 X G ?a),@(Av (i:=2) ?a ?b),@(.frz ?a (.dK (?aE))),@(⟨?a,rfl,?t,?t,?t⟩),@(Di K ?a ?b),@(?A K ?a ?b=?Z),@(Eg (K:=K) ?k ?a),@(upd H1 pr (?G [?d bx,?d ?a])),@(us.length=?a),@(show j≠?a by omega),@(Cm ?j ?aR (Aa ?a Ae)),@(Br (Fw (K:=K) qc9 qf7 qf6 Ej ?a (Aa (D5 Ae) Ae))),@(?M Aj dx (?K ?S (?d ?a) fs)),@(fun i j c hi hj hc=>ED (?a i j hi hj) (?b j c hj hc)),@(?c (?c ?a)),@(?E ?a ?C),@(Av (i:=?a) ?cA ?b),@(Rep K (?a) ?h9 (pA ?b)),@(qu0 X G ?a),@(E4 fun o=>τ=?a),@(⟨_,rfl,_,rfl,_,_,rfl,rfl,?a,rfl,_,rfl,?_⟩),@(⟨?a,_,rfl,?aK,rfl,_,_,rfl,_,_,rfl,rfl,?_⟩),@(⟨P,us,rfl,.of ?a,?bN ?b r⟩),@(?gQ K ?a ?h8=true),@(⟨_,rfl,_,rfl,_,rfl,c,_,rfl,?cC ?a,?lF⟩),@(fun a o e=>sx _ _ (Ap e ?a) (s3 _ _ e)),@(?o (Jc us ?i (?a ?a7))),@(?a (by simpa using NK)),@(upd G1 F (?o (Jc (VI ?cY (s.1 i)) ?a ?b))),@(Bh ?a ?bZ (Aq L5 hr (Aa ?aX Ae)) ?a0),@(nN9 K ?a),@(Br (Js ?a ?p ?b hr)),@(⟨_,rfl,p,Aw,dx,_,rfl,?a,?aS,?b,?c9,?_⟩),@(Jd ?aN w K mg ?e ?a ?bW ?eF 2 ?h2),@(Jd ?aN w K mg ?e ?a ?bC ?e6 3 ?g4),@(By ?a w K mg ?e En 14 ?b fd ?fA (V5 K)),@(by show(?a:Nat)<=sizeLine;decide),@(?h ?a (upd ?b p (?G [?f q.1,?f q.2]))),@(⟨O9m,O9m,O9m,fun c hc=>Sk ?a ?b ?b4⟩),@(By P w K mg ?e En 4 f fd ?bK ?a),@(vs d i ?a f l r hv O9m O9m O9m),@(Bl (Ch ?a)),@(At (i:=4) ?a),@(Eb (top ?a) ?b),@(By P w K mg ?e En 6 f fd ?a (?b K)),@(By P w K mg ?e En 5 f fd ?a (?b K)),@(Av (i:=?a) Gq.nd (Bd ?aB ?b ?w ?B)),@(?M Aw dx (?K ?f2 (?d ?a) ?iP)),@(⟨_,_,⟨?a,Sn,Ow⟩,?oG,?nH⟩),@(upd ?a T1 (?G ?b)),@(fun z=>?a ?b),@(CF _ _ ?a (s5 _ _ ?b)),@(?F ?a ?a4 (Au ?b)),@(σ'=[?m,?a1,?T,?U,?V,?aI,?a,?b,none,none,none,none,none,none,none,none]),@(σ'=[?m,?a1,?T,?U,?V,?aI,?b2,?bG,?c6,?a,?b,none,none,none,none,none]),@(Ea (K:=K) (n:=2) ?j (Bm ?a (Bm ?b D9))),@(Br (Fw (K:=K) qc9 qr1 qr0 Tz ?R (?s3 ?q (?a (K:=K) qc9 PySem.F.slot_list_pop PySem.F.type_list_pop DI ?R ?a8)))),@(σ'=[?l,?b8,?c (?c0),?c (?f (f ?a)),?c (?f (f j)),rS P]),@(σ'=[?m,?a,?b,none,none,none,none,none]),@(By P w K mg ?e En ?a f fd ?a4 (?s6 ?b)),@(Bb ?a2 ?a6 qh1 ?a),@(Ak (Br (Df ?k ?u ?a hr ?b))),@(?c (?f ?a)),@(σ'=[?m,?l,?aO,rS q,?d0,?cL,?a,o7]),@(Aq ?a hr ?b),@(Bd ?aP ?a Am ?B),@(uu ?a (?s8 ?b) ?P),@(WX K Ah Aj H0 ?a p L R nm n w ?g7 l r []),@(Ht (Gw (Bb (C3 (K:=K)) ?hK B4 (?s3 ?a (Gy (v:=.ty ?eI) rfl ?e7 Dc rfl))))),@(WX K Ah Aj H0 ?a p L R nm n w ?i ?b r ?dU),@(uu ?a (?s8 ?b) ?y),@(σ'=[?b7,?aQ,?a,none,none]),@(?c (?o ?a)),@(?a xs ?b z k0 L G f l r),@(fun j i=>Ty (?e8 (?jW j 0).toNat []) ((?eA).getD i ?a)),@(LX H' Ah ?a r1' UB ?i n n ?b (fun a=>a=nm\/a=r2\/a=b2)),@(Dr (E3 (K:=K)) ?j ?e7 Dc ?a),@(upd H6 ?a (?M Aj dx (?K ?eJ (?d R') (?sA E)))),@(WX K Ah Aj H0 H' p L R nm n w ?i ?a ?gG ?dU),@(Ql K H' tp nm r1 D1 D2 b2 z (?aH) k0 ?a l r),@(σ'=[?m,?l,?aO,rS ?a,none,none,none,none]),@(σ'=[?l,?d1,o2,?a,?b]),@(?h ?a H'),@(σ'=[?m,?l,?aO,rS q,?d0,?cL,?J,rS ?a]),@(Ak (Br (Df ?k ?p Jl hr (?s3 ?w ?a)))),@(?c (.dK (cK ?a))),@(SX Ad H ?a p q (fun a=>?h3) n ?cY t ?b s),@(eL ?a w K mg ?e Ah ?eB 1 (?s6 Lp)),@(Rep K H' (?d ?a) ?b),@(Rep K H' (?a) (dT (?bR) (?bR) ?dG)),@(uu ?a ?b (?sC TZ (fun _ _ _ _=>rfl))),@(?A K ?a ?eV=?g5),@(upd H2 b (?sO ?a)),@(LX H' Ah R r2 b2 ?i w w ?a (?f7)),@(⟨?a,_,?s,_,rfl,rfl,Ab,?_,?b6 ?b,?nW⟩),@(σ'=[?m,?J,?U,?V,?dW,?e1,?T,?a]),@(Jd P w K mg ?e ?a ?bW ?eF 2 ?h2),@(Jd P w K mg ?e ?a ?bC ?e6 3 ?g4),@(σ'=[?l,?m,?a]),@(σ'=[?b7,?aQ,rS ?a,?l,o4,none]),@(s2 _ _ ?a),@(fun i ys τ G ?a hz=>by ext rW),@(?M Aj dx (?sA ?a)),@(⟨_,_,⟨?a,Qf,Na⟩,?q2,?p3⟩),@(?gV K ?d7 ?a=?t0 ?b),@(At (i:=?a) ?b),@(Br (Fw (K:=K) qc9 qf7 qf6 Ej ?a ?b)),@(Jj (v:=?f ?a) ?j Hg ?aA),@(Av (i:=?a) ?aC ?b),@(Aa (D5 (Aa ?a ?b)) Ae),@(Cj (?eY (cT ?a (Xb ?b))) ?dQ Bu),@(Bp Ei ?a Am),@(fun σ' H'=>Ef (?u7 i) (Dy K H' P ?gF) ?a),@([?l,?b8,?c (?c0),?uC (f i),?uC (f ?a),none]),@(Rs fun ?o5 ?kH ?iE=>Ef (?vD L) ?a (J ?b t s)),@(Bh ?a ?b Am ?a0),@(H' ?a=?uM ?b),@(Av (i:=3) ?a ?b),@(fun σ' H'=>σ'=?a/\?b),@(uu ?a ?b ?y),@(Aa ?k (?s3 ?a (Bd ?aB (pv ?b) ?j8 ?B))),@(Ak (Be ?a)),@(Aa ?a Ae),@(Br (?uE Dl (?s3 ?n ?a))),@(Aa ?q (?s3 ?a ?b)),@(Aq Cu hr (?s3 ?a (?uA ?b))),@(Br (Df ?R ?b0 Jm hr (?vN Mz ?a))),@(Bd ?aB ?a ?b ?B),@(Aq ?a hr (?s3 ?k (?vP ?W))),@(Aq Qg hr (?w0 (?uA ?a))),@(Av (i:=?a) ?aZ ?b)])
noncomputable abbrev Mq:Stmt:=Eb ?fE 4
theorem Hz:?F [?Q,"i","j","one",?fC,?eH] ?iI (Au Mq):=Bf
theorem Zv[?I](F:Ew K ?iW ?l2 Mq f fd)[?H](Jm:?vB Ah)(Lc:?vA Ah):By P w K mg ?e En 4 f fd ?iI (?s6 j4):=by
 refine ?t1 Hz;obtain⟨H0,p,L,R,nm,n,w,m,i,j,l,r,f,rfl,x,hij,hj,mn,mw,ok,k1,k2⟩:=h;obtain⟨oX,OW⟩:=x.sm;ext eL;ext kT;obtain⟨p1,p1'⟩:=ok.p1;obtain⟨p2,p2'⟩:=ok.p2
 refine⟨_,(Af (?vV Hz.nd ?aX)
  (Af (Av (i:=4) Hz.nd ?bZ)
  (Ak (Cj (?vT Lz (Bp J9 ?W ?w)) (Af (?w4 (Aa ?n (Aa ?q ?b1)))
  (Af (Av (i:=5) Hz.nd (Df ?R ?b0 Lc hr (Aa ?n (?w2 ?w ?W))))
  (Af (?w4 (?w2 ?n (Lx Hm (Bp Ka (Bp op_mulX ?h7 ?W) ?h7))))
  (Af (J7 ?h7 (J8 ?R ?n Fe))
  (Ak (J7 (Bp op_mulX (Bp Ka ?w ?h7) ?W) (J8 ?R ?q Fe))))))) Bu)))),?_⟩
 ext N
 refine⟨_,rfl,p,Aj,fZ,FT,_,rfl,hpa,?p,?c5,tU,_,rfl,nm,_,_,_,rfl,rfl,?iM,?tR (show i<m by omega),?_⟩;refine⟨_,rfl,p,Aj,fZ,FT,_,rfl,hpa,?p,?c5,tU,_,rfl,nm,_,_,_,rfl,rfl,?iM,?tR hj,?_⟩;refine ?sL (?vR j);ext cD;refine(?t6 p1);ext hB;rotate_left
 . have h2:f j%f i=0:=?bV
   exact k1 (?pG h2)
 ext N
 obtain⟨dl,fl,hL,_,_,_,m4,_⟩:=lx.ob;refine ?s2 (fun σ' H'=>σ'=(?vR j)/\∃r1 b1,?uJ H' ?f5/\LX H' Ah L r1 b1 ?i n n ?f5 (fun a=>a=nm\/a=r2\/a=b2)/\?v7 r/\H0 r1=none/\H0 b1=none)
 . refine⟨_,rfl,p,Aj,fZ,FT,_,rfl,hpa,?p,?cJ,wC,L,dl,fl,rfl,hL,?oM,_,rfl,_,rfl,?b3,?fH⟩;have s1:?h H (?iA):=?dB;have hT:?t3 ?iA (?qV):=?jE
   generalize ?iA=G1 at s1 hT;refine⟨L,?e3,Ah,r1,b1,_,n,n,l,_,?qV,rfl,?bB,?o7,hT,?oX,?oX,O9m,O9m,?hL⟩;obtain⟨y1,y2⟩:=x.left lx ly f3 f4 s1 sx n1 n2 z;exact ?s4 ⟨rfl,r',b',y1,z,y2,?hY n1,?hY n2⟩
 refine Ig fun H2 cB=>?_;intro sq;obtain⟨r1',UB,x2,wA,ly2,f1',f2'⟩:=cB;obtain⟨tvb,dxb,fsb,hpb,l1b,l2b,l3b,l4b,l5b,l6b,l7b,_⟩:=x2.ob;obtain⟨dr,fr,hR,_,_,_,m5,_⟩:=ly2.ob;refine qw5 (fun σ' H'=>Qm fun ?oQ (g a b:Int)=>Kh (?u7 i) (?p5 (f i) (f j) g a b) (Dy K H' P ?gF) (?uS ?f5) (?uP L ?f5) (?v7 ?gG)) ?g ?_
 . refine⟨_,rfl,p,Aj,dxb,fsb,_,rfl,hpb,?p,?eG,l4b,R,dr,fr,rfl,hR,?m9,_,rfl,_,rfl,_,rfl,_,rfl,?_⟩;refine⟨R,Ah,r2,b2,_,w,w,i,j,f i,f j,r,_,rfl,?bB,ly2,O9m,O9m,O9m,O9m,O9m,p1,p2,p1',p2',ok.br,fun P g a b G fr kp hT sh z=>?_⟩;obtain⟨y1,y2⟩:=x2.right wA ly2 f1' f2' f3 f4 fr kp z;exact ?s4 ⟨P,g,a,b,rfl,sh,hT,y1,y2,z⟩
 refine yW fun P g a b H3 sh hT3 x3 yD ly3=>?_;intro sq;obtain⟨tvc,dxc,fsc,hpc,l1c,l2c,l3c,l4c,l5c,l6c,l7c,_⟩:=x3.ob;obtain⟨dl3,fl3,hL3,_,_,_,m6,_⟩:=yD.ob;have g0:=sh.pos;have lg:g.natAbs<L9:=qb5 (Nat.le_of_dvd (Int.natAbs_pos.mpr O9m) (qt7.mpr sh.dA)) p1';have lb:b.natAbs<L9:=qb5 sh.lb p1';have cb:∀z:Int,Uu z g:=fun z=>Uu.of9 O9m lg;have ek:∀z:Int,z.fdiv g=z / g:=fun z=>qg8 _ O9m;have lk':(?mO).natAbs<2 ^ 18000:=qb5 (qh2 _ _) (At3 lb p2');refine ?s2 (?vQ (?uS (XY i j g b f l)))
 . refine⟨_,rfl,p,Aj,dxc,fsc,_,rfl,hpc,?p,?cJ,l3c,L,dl3,fl3,rfl,hL3,m6 _ ?aJ,_,rfl,_,rfl,_,rfl,P,_,_,_,rfl,rfl,hT3,rfl,_,rfl,_,_,rfl,rfl,aW lb p2',_,rfl,P,_,_,_,rfl,rfl,hT3,rfl,_,_,rfl,rfl,cb _,_,rfl,?b3,?_⟩;rw[ek];intro T1 hT1;have s1:?h H3 (?hF):=?dB;have hT:?t3 ?hF (?pZ):=?jE
   generalize ?hF=G1 at s1 hT;refine⟨L,?e3,Ah,r1',UB,_,n,n,_,_,?pZ,rfl,?bB,yD.keep s1,hT,(?tO (by rw[qc2];exact lk') (ok.bl.2.1 _ _ O9m hc)),(?tO (by rw[qc2,qc2];exact lk') (ok.bl.2.2 _ _ O9m hc)),O9m,O9m,?hL⟩;obtain⟨y1,_⟩:=x3.left yD ly3 f3 f4 s1 sx n1 n2 z;exact ?s4 ⟨rfl,gZ (s1.seqT hT3) (s1 _ _ hL3) sx,y1⟩
 refine cC fun H4 hT4 x4=>?_;intro sq;obtain⟨tvd,dxd,fsd,hpd,l1d,l2d,l3d,l4d,l5d,l6d,l7d,_⟩:=x4.ob;refine⟨_,rfl,P,_,_,_,rfl,rfl,hT4,rfl,_,rfl,p,Aj,dxd,fsd,_,rfl,hpd,?p,?c5,l5d,_,rfl,nm,_,_,i,rfl,rfl,x4.nu,Jk (?jV),?_⟩;have e1:?oJ=(?jM).map ?aD:=lT O9m;have x5:=x4.num (ns':=?jM);rw[←e1]at x5;have hT5:Dy K (upd H4 nm (?o (?oJ))) P ?gF:=zL hT4 x4.nu;refine Gh (?vQ (WX K Ah Aj H0 H' p L R nm n w ?i (XY i j g b f l) ?gG (?jM))) ?_ fun Rc=>Rc _ _ ⟨rfl,hT5,x5⟩;refine cC fun H6 hT6 x6=>?_;intro sq;obtain⟨tve,dxe,fse,hpe,l1e,l2e,l3e,l4e,l5e,l6e,l7e,_⟩:=x6.ob;have lA:(f i / g).natAbs<L9:=qb5 (qh2 _ _) p1';refine⟨_,rfl,_,rfl,P,_,_,_,rfl,rfl,hT6,rfl,_,_,rfl,rfl,cb _,_,rfl,_,_,rfl,rfl,(by rw[ek];exact aW lA p2'),_,rfl,p,Aj,dxe,fse,_,rfl,hpe,?p,?c5,l5e,_,rfl,nm,_,_,j,rfl,rfl,x6.nu,Jk (by rw[Bq];exact hj),?_⟩;rw[ek]
 have e2:(VI m ?l3).set j (?f (f i / g*f j))=(?lV).map ?aD:=by
  rw[lT hj];show VI m _=VI m _;refine Pb ?n6;unfold VA Lat.put2;by_cases z1:c=j
  . subst z1;rw[?dT,?eW,?dT]
  . rw[?a3 z1];by_cases z2:c=i
    . rw[?aV z2,?aV z2]
    . rw[?a3 z2,?a3 z2,?a3 z1]
 have x7:=x6.num (ns':=?lV);rw[←e2]at x7;exact k2 g a b _ sh x7
noncomputable abbrev Qw:Stmt:=top 67
theorem Ct:?F [?D,"k",?eH,?iN,?jK,?k0,?a9,?nY,"turned_loops","turned_gauges","fillings",?i6,"i",?dY,"filling","loop"] ?iZ (Au Qw):=Bf
theorem CY[?I](F:Ew K ?eT ?eT Qw f fd)[?H][?rS][?eM][?kQ](L6:Has P w K mg ?e ?o3 [?D,"k",?gI] 3 (i8 K)):By P w K mg ?e En 4 f fd ?iZ (Ux K):=by
 refine ?t1 Ct;obtain⟨a,tp,nm,r1,D1,D2,b2,vl,vg,xs,k,z,k0,w,L,G,f,l,r,rfl,hL,N4,hw,hvl,hvg,x,hz,hkz,hkw,hf0,bl1,bl2,bL,bG,kq⟩:=h;obtain⟨la,lu,rfl,hlq,WN,_⟩:=Hf hvl;obtain⟨ga,gu,rfl,_,_,_⟩:=Hf hvg;have hm:?cW<=40:=?hV;have hwl:w<=40:=by rw[hw];exact ?hV
 refine⟨_,(Af (?vM 5 (?sH ?w Ae))
  (Af (?vM 6 (?sH (?uE Bo ?dZ) Ae))
  (Af (?vM 7 (Bp (T8 (K:=K)) ?bA (Bp MJ (Gd ?b1) (Bp K9 ?cU (?sH ?bA Ae)))))
  (Af (?vM 8 (?uE Ke (Aa (Aq Cu hr (Aa ?bA ?bU)) (?s3 ?w ?aW))))
  (Af (?vM 9 (?uE Ke (Aa ?bA (?s3 ?W ?aW))))
  (Af (?vM 10 (?w3 ?bA (?w0 ?bA)))
  (Af (?vM 11 ?kC)
  (Af (Cn qb9 rfl (Sc (K:=K) ?j ?o6 (?w0 ?dS)) (?u5 (?vJ 12 ?aC) (?vJ 13 ?aC)) (Af (?vM 14 (Sd (Bh E5 (pv 13) Am ?a0) Se (?uE L6 (?vY (Bp Ei ?n Am) 10))))
  (Af (?vM 15 (?uE L6 (?vY ?n 8)))
  (Ak (?vK (pv 11) (Aa (D5 (Aa (pv 13) (Aa (pv 15) (Aa (?uE L6 (?vY ?n 9)) (?w0 (pv 14)))))) Ae))))))
  (?vZ (pv 11)))))))))),?_⟩
 ext N
 refine ?s2 (fun σ' H'=>?u3 none none/\?bS)
 . ext s1;ext kY
 ext cD;refine ?s2 (fun σ' H'=>?u3 ?b2 none/\?h4)
 . refine⟨_,rfl,_,rfl,a,k,xs,rfl,hL,O9m,fun P H1 nP s1 hP=>?_⟩;ext kU;exact ?hN
 ext kW;refine ?s2 (fun σ' H'=>E4 fun(nn:Addr)=>Ef (?u3 ?b2 ?bG) ?cR (?vU nn (?r8)))
 . have x1:=?cP s1;refine⟨_,rfl,tp,_,_,_,rfl,rfl,x1.tup,rfl,?b3,fun l1 hl1=>?_⟩;have s2:?h H1 (?mC):=?z hl1;have e2:upd H1 l1 (?o [?f 0]) l1=?uM [?f 0]:=Ab;generalize ?mC=H2 at s2 e2;have x2:=x1.same s2;refine⟨_,rfl,_,rfl,tp,_,_,_,rfl,rfl,x2.tup,rfl,nm,_,rfl,?r x2.num,_,_,rfl,rfl,l1,_,_,rfl,rfl,e2,?_,?_,?_,fun l2 hl2=>?_⟩
   . rw[Bq];omega
   . rw[Bq];omega
   . rw[Bq];exact B9 (by simp;omega)
   have er:(?l9 (?hG-(((VI k0 f).length:Nat):Int)).toNat [?aD 0]).flatten=?l4:=by
    rw[Bq,show(?hG-?f4).toNat=z-k0 by omega];generalize z-k0=n
    induction n with
    | zero=>rfl
    | succ n ih=>rw[qi7,qk9,ih];rfl
   rw[er];have s3:=?dA (?z (o:=?o (?l4)) hl2);have x3:=x1.same s3;refine⟨nm,l2,_,_,rfl,rfl,x3.num,?aK,B9 (by rw[Bq,qk2];omega),fun nn hnn=>?_⟩;refine ?s4 ⟨nn,rfl,(?aF s3).trans (?z hnn),?_⟩;rw[Ab,fJ hkz]
 refine Uv fun nn H2 s2 hnn=>?_;intro sq;refine ?s2 (fun σ' H'=>E4 fun(tl:Addr)=>Ef (?u4 none none) (?uW H2) (?v2 tl (dT z ?cT (?dJ z l.2 L))))
 . have x2:=?cP s2;refine⟨_,rfl,tp,_,_,_,rfl,rfl,x2.tup,rfl,_,rfl,?d D1,z,z,_,rfl,x2.lback,O9m,O9m,fun F as H3 hal R3=>?_⟩;refine⟨_,rfl,_,rfl,?gD,?hJ,z,z,?cW,_,_,rfl,R3.rep hal,?x (?dA ?dN) hvl,O9m,O9m,O9m,?sZ bl2 bL,fun tl at_ H4 IB R4=>?_⟩;exact ?s4 ⟨tl,rfl,R3.same.trans ?k8,R4.rep IB⟩
 refine Uv fun tl H3 s3 IB=>?_;intro sq;have s23:=?k4;refine ?s2 (fun σ' H'=>E4 fun(tg:Addr)=>Ef (?u4 ?d3 none) (?uW H3) (?v2 tg (dT z ?cT (?dJ z l.1 G))))
 . have x3:=?cP s23;refine⟨_,rfl,tp,_,_,_,rfl,rfl,?i0,rfl,_,rfl,_,rfl,?d r1,?fV,z,z,?cW,_,_,rfl,x3.left,?x s23 hvg,O9m,O9m,O9m,?sZ bl1 bG,fun tg at_ H4 htg R4=>?_⟩;exact ?s4 ⟨tg,rfl,?k8,R4.rep htg⟩
 refine Uv fun tg H4 s4 htg=>?_;intro sq;have LH:=s23.trans s4;refine ?s2 (fun σ' H'=>E4 fun(fi:Addr)=>Ef (?u4 ?d3 ?dV) (?uW H4) (?v2 fi (dT w w r.1)))
 . have x4:=?cP LH;obtain⟨_,du,ez,hdq,Ax7,_⟩:=Hf ?qY;cases ez;refine⟨_,rfl,tp,_,_,_,rfl,rfl,?jO,rfl,_,rfl,tp,_,_,_,rfl,rfl,?jO,rfl,D2,du,rfl,?r hdq,?_⟩;rw[Ax7];refine⟨?dK,w,w,_,rfl,?qY,O9m,O9m,fun fi at_ H5 YH R5=>?_⟩;exact ?s4 ⟨fi,rfl,R5.same,R5.rep YH⟩
 refine Uv fun fi H5 s5 YH=>?_;intro sq;refine ?s2 (fun σ' H'=>E4 fun ?fK=>B6 (σ'=[?m,?a1,?T,?U,?V,?aI,?b2,?bG,?c6,?d3,?dV,?J,none,none,none,none]) (?uW H5) (H5 D=none) ?gO)
 . ext rO
 refine Wh fun D H6 s6 nD hD=>?_;intro sq;have s25:=LH.trans s5;have Ad6:=((?nO s4).trans s5) _ _ hnn;have Av5:=?x (s4.trans s5) IB;have Av6:=?x s5 htg;have hL5:=?x s25 hL;refine ?s2 (fun σ' H'=>bZ fun ?hR ?q6=>B6 (σ'=?mD) (?uW H5) (H' D=?d5) (Bz H' us (?uN Gb k)))
 . refine⟨_,rfl,nn,rfl,⟨_,?sF s6 Ad6⟩,?_⟩
   let A48:?cG:=fun i σ G'=>bZ fun ?hR ?q6=>B6 (σ=?mD) (?h H5 G') (G' D=?d5) (Bz G' us (?qH (?uN GJ k)))
   refine Yh (K:=K) (a:=nn) (xs:=?r8) A48
    ⟨[],?i,?i,?i,?i,rfl,s6,hD,trivial⟩ (fun i σ G' _ hz=>by obtain⟨_,_,_,_,_,_,g,_⟩:=hz;exact ?sF g Ad6) ?_ ?_
   . rintro i v σ G' p hv Du hp
     and_intros
     ext rU;have hi:i<z:=by have:=?hZ;rwa [Bq]at this
     rw[Ch hi]at hv;cases hv;have UR:?sU i:=by have:=rU.len;rw[qa2,qi8]at this;exact this
     have sp:?h G' (?pI):=?gZ;have ep:upd G' p (?G [?f i,?bD]) p=?c (?G [?f i,?bD]):=Ab;refine⟨p,_,rfl,.of ep,rfl,_,_,rfl,_,_,rfl,rfl,?_⟩;generalize ?pI=G1 at sp ep;have g1:=?d4 sp
     have rows:∀(t:Addr) (h w':Nat) (M:Lat.Mat) (G2:Hp),Rep K G2 (?d t) (dT h w' M)->i<h->∃tu b,SqL K G2 t tu/\e9 tu ?a7=?c (?d b)/\SqL K G2 b (VI w' (M i)):=fun t h w' M G2 hr hih=>by
      obtain⟨_,tu,ez,hq,hl,Nb⟩:=Hf hr;cases ez;obtain⟨u,hu⟩:∃u,tu[i]?=?c u:=⟨tu[i],qa0 O9m⟩
      obtain⟨_,b,rfl,hb⟩:=Nb i u hu;exact⟨tu,b,hq,Bl hu,hb⟩
     refine ?s2 (fun σ' H'=>E4 fun(fl:Addr)=>Ef (σ'=[?m,?a1,?T,?U,?V,?aI,?b2,?bG,?c6,?d3,?dV,?J,?b8,?oN,rS fl,VN]) (?uW G1) (H' fl=?uZ (if ?f3=0 then [] else RW xs (k+1) (r.1 i))))
     . refine⟨_,rfl,rfl,_,rfl,?_⟩;ext hB
       . have e0:?f3=0:=?bV
         refine fun fl hfl=>?s4 ⟨fl,rfl,?z hfl,?_⟩;rw[Ab,?aV e0];rfl
       . have e0:¬?f3=0:=?bV
         have hik:i<k0:=by
          by_cases hh:i<k0
          . exact hh
          . unfold Lat.numAt at e0;rw[?a3 hh]at e0;exact ?j7 rfl e0
         obtain⟨tu,b,h1q,h2q,h3q⟩:=rows fi w w r.1 G1 (?x g1 YH) O9m;refine⟨_,rfl,_,rfl,_,_,rfl,rfl,_,rfl,_,rfl,fi,tu,_,_,rfl,rfl,h1q,h2q,a,b,xs,k+1,Io w (r.1 i),rfl,?x g1 hL5,O9m,?iB,by rw[Pj,hw],fun fl G2 nfl g2 hfl=>?_⟩;refine ?s4 ⟨fl,rfl,g2,?_⟩;rw[hfl,?a3 e0,hw];rfl
     refine Uv fun fl G2 g2 hfl=>?_;intro sq;have OY:=?gW;refine ?s2 (fun σ' H'=>E4 fun(lp:Addr)=>Ef (σ'=[?m,?a1,?T,?U,?V,?aI,?b2,?bG,?c6,?d3,?dV,?J,?b8,?oN,rS fl,rS lp]) (?uW G2) (H' lp=?uZ (RW xs k (?dJ z l.2 L i))))
     . obtain⟨tu,b,h1q,h2q,h3q⟩:=rows tl z ?cT _ G2 (?x OY Av5) hi;refine⟨_,rfl,_,rfl,_,rfl,_,rfl,tl,tu,_,_,rfl,rfl,h1q,h2q,a,b,xs,k,Io ?cT (?dJ z l.2 L i),rfl,?x OY hL5,O9m,?iB,?rB,fun lp G3 nlp g3 hlp=>?_⟩;exact ?s4 ⟨lp,rfl,g3,hlp⟩
     refine Uv fun lp G3 g3 hlp=>?_;intro sq;have tY:=OY.trans g3;have ZO:=(?pV g2).trans g3;obtain⟨tu,b,h1q,h2q,h3q⟩:=rows tg z ?cT _ G3 (?x tY Av6) hi;refine⟨_,rfl,?s9 (ZO _ _ Eo),_,rfl,_,rfl,_,rfl,_,rfl,_,rfl,_,rfl,tg,tu,_,_,rfl,rfl,h1q,h2q,a,b,xs,k,Io ?cT (?dJ z l.1 G i),rfl,?x tY hL5,O9m,?iB,?rB,fun gp G4 ngp g4 hgp=>?_⟩;refine⟨_,rfl,?b3,fun t ht=>?_⟩;have g5:=?z (o:=?sJ fl) ht;have et:upd G4 t (?sJ fl) t=?c (?sJ fl):=Ab;generalize upd G4 t (?sJ fl)=G5 at g5 et;have g45:=g4.trans g5;have YA:=ZO.trans g45;refine⟨D,_,_,rfl,rfl,?eU,?c1,?_⟩;have hP:Hj G5 (?d t) (GJ xs k z k0 L G f l r i):=⟨t,lp,gp,fl,rfl,et,g45 _ _ hlp,g5 _ _ hgp,(?oH g45) _ _ hfl,(Ap (g3 _ _ hfl) ngp).symm⟩
     have nDt:∀c o,?oK->(∀vs,o≠?o vs)->c≠D:=fun c o e h z=>by
      rw[z,?eU]at e;cases e;exact h _ rfl
     have sx:∀c o,c≠D->?oK->upd G5 D (?o (?mI)) c=?aT:=fun c o hc e=>by rw[Al hc];exact e
     refine⟨?mI,_,_,_,_,rfl,(?d4 YA).turn nD,Ab,?_⟩;rw[qk6,qb1];exact Bz.snoc (Bz.put (?eU) (Bz.same YA rU)) (Hj.put hP (?eU))
   . rintro σ G' Du;ext rU;rw[Bq]at rU;exact ?s4 ⟨us,_,_,_,_,rfl,g,Eo,rU⟩
 refine YV fun us YC yC YB VN H7 s7 hD7 rU=>?_;intro sq;exact⟨_,rfl,kq D us H7 (s25.free nD) (s25.trans s7) hD7 rU⟩
noncomputable abbrev Mv:Stmt:=?tT 69 4
theorem Zq:?F ?bK ?bK (Au Mv):=Bf
theorem Zz[?I](F:Ew K ?jD ?p2 Mv f fd)[?H][?kS]:?tP ?lH:=by
 refine ?t1 Zq;ext rD
 ext rG
 have hat:?oT:=by
  have:=Bl e1
  ext rZ
 refine⟨_,(Af (?w1 (?vL 4))
  (?vZ (?uA (Aa (B5 (N':=?mA) (cap:=?j2) ?j ?aU (?sE Ca ?aX) (?s5 (?vJ 0 MP)) (?s5 (My (?vT E5 (Bd ?aP ?k Am ?B)))) (?s5 ?k)) Ae)))),?_⟩
 ext N
 ext rE
 let A47:?bH:=fun i ys τ G=>B6 (?h H G) (G D=?uM ys) (ys.length=(?oS fun p=>?mM).length) (?t5 [o])
 refine Pr (K:=K) (a:=E) (xs:=eu) A47
  ?hE (?vF _) ?_ ?_
 . ext rC
   have y40:?m8:=by
    have h3:=qg6 (fun p:Bv=>?mM) (?fY);rw[qc4]at h3;omega
   ext rK
   . have NK:?gS:=?cQ
     refine⟨_,rfl,Eo,?c1,?oD,Ab,?_,_,rfl⟩;rw[KI,qh4,qj6,?tD ?aV,qo1,qc0,qc0,yl];rfl
   . have NK:¬?gS:=?cQ
     ext rL
 . rintro ys τ G ⟨g,Eo,yl,_⟩;refine⟨D,ys,rfl,?r (.of Eo),?_⟩;rw[el,qd9]at yl;rw[yl];exact kq ps G hps g
noncomputable abbrev K6:Stmt:=?tT 69 5
theorem W4:?F ?bK ?bK (Au K6):=Bf
theorem Xm[?I](F:Ew K ?kE ?p9 K6 f fd)[?H][?kS]:?tP ?mW:=by
 refine ?t1 W4;ext rD
 ext rG
 have hat:?oT:=by
  have:=Bl e1
  ext rZ
 refine⟨_,(Af (?w1 (?vL 4))
  (?vZ (B5 (N':=?mA) (cap:=?j2) ?j ?aU (?sE Ca ?aX) (?s5 (?vJ 0 MP)) (?s5 (My (?vT Lz (?uF ?k)))) (?s5 (?uF ?k))))),?_⟩
 ext N
 ext rE
 let A46:?bH:=fun i ys τ G=>B6 (?h H G) (G D=?uM ys) (ys=((?oS fun p=>?cH (p.1≠0)).map (·.1)).map ?aD) (?t5 [o])
 refine Pr (K:=K) (a:=E) (xs:=eu) A46
  ?hE (?vF _) ?_ ?_
 . ext rC
   have y40:?m8:=by
    have h3:=qg6 (fun p:Bv=>?cH (p.1≠0)) (?fY);rw[qc4]at h3;rw[yl,qa2,qa2];omega
   ext rK
   . have NK:¬?gS:=?cQ
     refine⟨_,rfl,t,_,_,_,rfl,rfl,.of et,rfl,Eo,?c1,?oD,Ab,?_,_,rfl⟩;rw[KI,qh4,qj6,?tD ?aV,qo1,qb1,qb1,yl];rfl
   . have NK:?gS:=?cQ
     ext rL
 . rintro ys τ G ⟨g,Eo,yl,_⟩;rw[el,qd9]at yl;refine kq ps D G hps hD g ?_;rw[Eo,yl];rfl
noncomputable abbrev Q2:Stmt:=top 12
theorem cQ:?F ?fN ?fN (Au Q2):=Bf
theorem dD[?I](F:Ew K ?f8 ?f8 Q2 f fd)[?H](Yc:Has P w K mg ?e ?r7 [?D,"k",?dR,?dY] 4 (Wr K)):?tV ?fN U0:=by
 refine ?t1 cQ;obtain⟨a,b,xs,k,ms,rfl,hL,hb,hm,kq⟩:=h
 refine⟨_,(Af (Cj (Ht (Gw (Bb EA ?hK B4 (?s3 ?q (Gy (v:=.ty "dict") rfl T.n_dict Nj rfl))))) ?dQ Bu)
  (?vZ (Bb (?sE M9 ?j) T.n_all Ps (Aa (mG (B5 (N':=[?dR,?dY,?D,"k"]) (cap:=[none,none,?c 0,?cO]) ?j ?aU (Ol ?q) (?s5 (?u5 (?vJ 0 tH) (?vJ 1 tH))) ?bP (?s5 (?uE Yc (Aa ?q (Aa ?w ?dZ)))))) Ae)))),?_⟩
 ext N
 refine⟨_,rfl,b,_,rfl,?r hb,_,rfl,?_⟩;ext eQ;refine ?L ⟨b,?aE,hb,?mK⟩;refine⟨_,rfl,b,o,?aE,rfl,Ab,?bQ⟩;obtain⟨RJ,JR⟩:=DS hD
 let A45:?bH:=fun i zs τ H1=>Ed (zs=((ms.take i).map ?pP).map V.bl) (H1 b=?c (?sO o)) (H1 D=?uM zs) (Qj b H H1) (Jp fun o1 o2=>τ=[o1,o2,?m,?a1])
 refine Yq (d:=b) (o:=o) (kvs:=?aE) A45
  ⟨rfl,?_,Ab,?_,?i,?i,rfl⟩ (fun i zs τ H1 _ hz=>by obtain⟨_,e,_⟩:=hz;exact e) ?_ ?_
 . rw[?dP];exact Ab
 . intro c q n1 e2;rw[Al (Ap e2 RJ),Al n1];exact e2
 . rintro i kk x zs τ H1 p hx Du hp;revert τ;refine TL ?_;intro hz1 hb1 Er hk1 o1 o2 Fc;subst hz1;obtain⟨q,hq,rfl,rfl⟩:=Yx hx;have hlt:?pE:=?oR;have sp:?tN H1 H1:=?gZ;ext kR;refine⟨_,rfl,_,rfl,_,rfl,_,rfl,a,xs,k,q.1,q.2,rfl,?x sp (Rep.x hk1 hb hL),?_⟩;refine⟨sp _ _ Er,?b6 (by simp;omega),?_,?_,Ab,fun c r n1 e2=>?_,_,_,rfl⟩
   . rw[qr3,hq,qb1,qb1];rfl
   . rw[?dP];exact sp _ _ hb1
   . rw[Al (fun z=>by rw[z,RJ]at e2;cases e2)];exact sp _ _ (hk1 c r n1 e2)
 . rintro zs τ H1 ⟨rfl,hb1,Er,hk1,_⟩;rw[Rk,qd9]at Er;refine⟨hb1,D,ms.map ?pP,rfl,.of (by rw[Al JR];exact Er),?_⟩;rw[List.all_map];refine kq _ fun c q e2=>?_;by_cases z:c=b
   . subst z;rw[hb]at e2;cases e2;exact Ab
   . rw[Al z];exact hk1 c q z e2
noncomputable abbrev J4:Stmt:=top 31
theorem Ip:?F [?cS,?dR,"piece"] [?cS] (Au J4):=Bf
theorem Vq[?I](F:Ew K ?fB ?fB J4 f fd)[?H](NN:Has P w K mg ?e "fits" [?D,?bE] 4 (HC K)):?tV [?cS] Wq:=by
 refine ?t1 Ip;obtain⟨v,xs,rfl,hL,hs,hx,k⟩:=h;obtain⟨a,us,rfl,hq,r⟩:=id hL;have hl:?lJ:=?qN
 refine⟨_,(Af (Cn qb9 rfl (Sc (K:=K) ?j ?o6 ?cX) (?u5 (?vJ 1 Ip.nd) (?vJ 2 Ip.nd)) (Ak (Cj (?sK NN (Aa (Ex ?cM ?k Gx (Fj ?n)) ?bM)) (?vZ ?n) Bu)))
  (?vZ FE)),?_⟩
 ext N
 refine⟨_,rfl,a,rfl,⟨us,hq⟩,?_⟩
 let A44:?cG:=fun i σ G=>Jp fun o1 o2=>σ=[?m,o1,o2]/\?h H G
 refine Yh (K:=K) (a:=a) (xs:=us) A44
  ⟨?i,?i,rfl,Same.refl H⟩ (fun i σ G _ hz=>by obtain⟨_,_,_,s1⟩:=hz;exact s1.seq hq) ?_ ?_
 . rintro i v σ G p hv Du hp
   and_intros
   revert σ;refine tT ?_;intro o1 o2 s1 Fc;have hi:i<xs.length:=by have:=?hZ;omega
   obtain⟨dv,iE,rv⟩:=r.getV hv
   have edv:dv=?mH:=by
    rw[qa9,?cI]at iE;simpa using iE.symm
   subst edv;have sp:?h G (?pD):=?gZ;ext kR;generalize ?pD=G1 at sp;have s2:=?aF sp;refine⟨_,rfl,_,rfl,_,rfl,a,us,rfl,s2.seq hq,?n6⟩;have s3:?h G1 (?pN):=?z hc;have ec:upd G1 c (?tC ?c) c=?c (?tC ?c):=Ab;generalize ?pN=G2 at s3 ec;have s4:=?k4
   have Ax9:LT K G2 (?d c) (?qP):=by
    refine⟨c,_,rfl,.of ec,?_⟩;rw[S6,qp5];exact(?bN s4 r).take i
   refine⟨_,rfl,c,v,?mH,?qP,rfl,Ax9,?x s4 rv,fun G3 s5=>?dL⟩;rw[KH (hs i xs[i] (?cI))];refine ?iG;exact⟨_,_,rfl,s4.trans s5⟩
 . ext eO;refine tT ?_;intro o1 o2 s1 Fc;exact k G s1
noncomputable abbrev K5:Stmt:=?tT 58 2
theorem Gq:?F [?Q,?j0,"i","at","head",?fC] ?jC (Au K5):=Bf
theorem Xl[?I](F:Ew K ?iF ?m1 K5 f fd)[?H][?rN][?rR](Ja:?vA Ad):By P w K mg ?e En 5 f fd ?jC (?s6 CI):=by
 refine ?t1 Gq;obtain⟨H0,p,q,M,n,W,t,spot,i,s,Nx,rfl,x,hs,hi,ok,k⟩:=h;ext l0;obtain⟨r,b,lx,f1,f2⟩:=x.ex;ext dD;ext kZ;obtain⟨h1,h2,h3⟩:=ok.hd ?s (qa1 _) hs;obtain⟨o1,o2⟩:=ok.oth;obtain⟨ci,_,lJ,_,kE⟩:=?h1;obtain⟨cs,_,ecs,_,hcs⟩:=?sE xa.row ?eK
 refine⟨_,(Af (?vV Gq.nd ?aX)
  (Af (?tW 4 ?aX)
  (Af (?tW 5 ?bZ)
  (Af (Cj (?vT E5 (Bp J9 ?cU ?W)) (?uB Cq (?vN Mz (?w2 ?n (Lx Hm (Bp Ka ?cU ?W))))) (Af (Br (Df ?k ?u Ja hr (Aa ?n (Aa ?q (Aa ?W ?bU)))))
  (?uB Ce (?s3 ?n (?vP ?n)))))
  (?uB Ce (?s3 ?q (?vP ?n))))))),?_⟩
 ext N
 refine⟨_,rfl,p,Ad,dx,fs,_,rfl,hp,?u,?d6,l3,_,rfl,q,_,_,_,rfl,rfl,?nI,?tR hs,?_⟩;refine⟨_,rfl,p,Ad,dx,fs,_,rfl,hp,?u,?aL,l1,_,rfl,r,_,_,_,rfl,rfl,?cB,Bl ecs,_,rfl,cs,_,_,_,rfl,rfl,hcs,?lC,?_⟩;refine⟨_,rfl,p,Ad,dx,fs,_,rfl,hp,?u,?aL,l1,_,rfl,r,_,_,_,rfl,rfl,?cB,Bl lJ,_,rfl,ci,_,_,_,rfl,rfl,kE,?lC,?_⟩;refine As (fun σ' H'=>?jS/\?bS) ?_ fun key=>?nB;ext cD;refine qw5 (t:=?hM) (fun σ' H'=>?jS/\∃s1,?sD H' s1/\AF n W t i ?b5 i s1/\Hds W t ?b5 i s1.1/\Nx (Lat.shrS t i ?b5 s1 (i-?b5))) ?g ?_
 . refine(?t6 h2);refine ?lK
   . have h5:?cF%?d2=0:=?hS
     have h6:?cF=?jJ*?d2:=(Int.ediv_mul_cancel (?pG h5)).symm;obtain⟨tD,sZ⟩:=ok.add _ h6;refine⟨_,rfl,p,dx,fs,rfl,hp,?dX,_,rfl,_,rfl,_,rfl,_,rfl,_,_,rfl,rfl,Uu.of9 O9m h3,_,rfl,?b3,?_⟩;rw[qg8 _ (Int.le_of_lt h2)];have hk:(?jJ).natAbs<L9:=qb5 (qh2 _ _) o2;generalize ?jJ=kk at h6 tD sZ hk;intro T1 hT1;have s1:?h H (?iH):=?dB;have hT:?t3 ?iH (?iJ):=?jE
     generalize ?iH=G1 at s1 hT;refine⟨p,?e3,Ad,r,b,_,n,W,_,_,?iJ,rfl,?hU,?o7,hT,⟨hi,O9m,O9m,fun c hc=>FL (by rw[qc2];exact hk) (ok.bo.1 _ _ O9m hc)⟩,⟨O9m,hi,O9m,fun c hc=>FL (by rw[qc2,qc2];exact hk) (ok.bo.2 _ _ hi hc)⟩,O9m,O9m,?hL⟩;refine ?s4 ⟨rfl,_,x.redo s1 sx n1 n2 z,tD,?qL,sZ⟩;have e:(tnS (?iJ) s).1 j=s.1 j:=Lat.addR_row_ne (?sV i);rw[e];exact ?nM
   . refine As (fun σ' H'=>?jS/\∃g a c,?p5 (?d2) (?cF) g a c/\?sD H' (?jA)) ?_ ?qA;rotate_left
     . refine⟨_,rfl,p,dx,fs,rfl,hp,?dX,_,rfl,_,rfl,_,rfl,_,rfl,?_⟩;refine⟨p,Ad,r,b,_,n,W,?s,i,_,_,s,_,rfl,?hU,lx,O9m,hi,O9m,O9m,O9m,h2,o1,h3,o2,ok.bo,fun L g a c G fr kp _ sh z=>?_⟩;exact X1 _ _ ⟨rfl,g,a,c,sh,x.redo2 lx f1 f2 fr kp z⟩
     refine Ig fun G cB=>?_;intro sq;obtain⟨g,a,c,sh,y⟩:=cB;obtain⟨tD,sZ,ok3⟩:=ok.ble g a c sh
     have hd1:Hds W t ?b5 i (?jA).1:=fun j hj1 hj2=>by
      have e:(?jA).1 j=s.1 j:=Lat.blend_row_ne (?sV spot) (?sV i) _ _ _ _;rw[e];exact ?nM
     ext rF;refine⟨H0,p,q,M,n,W,t,i,_,?s,?dC,rfl,y,O9m,O9m,?r O9m,hd1,tD,?r3⟩;refine ?s4 ⟨rfl,_,z,sZ,?qL,ok3⟩;rw[Wz _ _ _ _ _ _ (?sV spot)];exact hd1 j hj1 hj2
 refine Ig fun G cB=>?_;intro sq;obtain⟨s1,y,tD,hd1,sZ⟩:=cB;ext rF;exact⟨H0,p,q,M,n,W,t,i,s1,i,?dC,rfl,y,hi,O9m,?L (qa1 _),hd1,tD,fun G' z=>k _ _ z sZ⟩
noncomputable abbrev Ir:Stmt:=?tT 58 3
theorem Lu:?u2 ?eC Ir:=Bf
theorem Tv[?I](F:Ew K ?iY ?o2 Ir f fd)[?H][?rN]:?u9 5 Wt:=by
 refine ?t1 Lu;obtain⟨H0,p,q,M,n,W,t,i,s,rfl,x,ok,k⟩:=h;ext l0;obtain⟨r,b,lx,_⟩:=x.ex;ext dD;refine⟨_,(Ak (Cn qb9 rfl (qE ?j ?aR (Aa (Bp K9 ?fM Am) (?s3 (Lx Hm Am) (Lx Hm Am)))) (?vJ 1 Lu.nd) (?uB Ce (?s3 ?n (?vP ?n))))),?_⟩;refine⟨_,rfl,p,Ad,dx,fs,_,rfl,hp,?u,?d6,l3,q,_,rfl,?r (?nI),_,_,rfl,rfl,_,rfl,_,rfl,i+1,by rw[Bq],O9m,?_⟩;clear lx hp l1 l2 l3 l4 l5
 let A43:?cG:=fun d σ G=>E4 fun o1=>σ=?lG/\SX Ad H0 G p q M n W t ?g6 (?nA)
 refine nQ (hi:=((i+1:Nat):Int)-1) (n:=i+1) A43 ?p6 ?_ ?_
 . rintro d σ G hd Du
   and_intros
   revert σ;ext l1;obtain⟨r,b,lx,_⟩:=y.ex;ext dD;rw[show((i+1:Nat):Int)-1-((d:Nat):Int)=((i-d:Nat):Int) by omega];obtain⟨tD,sZ⟩:=ok d O9m;refine⟨_,rfl,p,dx,fs,rfl,hp,?dX,_,rfl,_,rfl,_,_,rfl,rfl,?_⟩;refine⟨H0,p,q,M,n,W,t,i+1,?nA,i-d,i-d+1,rfl,y,O9m,O9m,?r O9m,tD,sZ,?r3⟩;rw[show i+1-(i-d+1)=d by omega]at z;exact⟨_,rfl,z⟩
 . ext eO;ext l1;exact k _ y
noncomputable abbrev Fu:Stmt:=Eb ?fE 3
theorem Cl:?u2 [?Q,?k0,"gap","i","j"] Fu:=Bf
theorem Oo[?I](F:Ew K ?hQ ?lB Fu f fd)[?H](Jl:Jd P w K mg ?e Aj ?iW ?iI 4 (?s6 j4)):?u9 5 j5:=by
 refine ?t1 Cl;obtain⟨H0,p,L,R,nm,n,w,m,l,r,f,Sv,rfl,x,mn,mw,v0,vs,k⟩:=h;obtain⟨gO,xK,LZ⟩:=T.x_GAPS;obtain⟨oX,OW⟩:=x.sm;ext eL
 refine⟨_,(Af (Av (i:=1) ?eD ?fM)
  (Af (Cn qb9 rfl (?sE Wc (Jj (v:=?d gO) ?j xK rfl)) (?vJ 2 ?eD) (Ak (Cn qb9 rfl (?sW (Bp K9 ?n ?q)) (?vJ 3 ?eD) (?uY (Bp Ei ?w ?q)))))
  (Ak (Cn qb9 rfl (Cm ?j ?aR ?a8) (?vJ 3 ?eD) (Ak (Cn qb9 rfl (l8 ?j ?aR (Aa (?vP ?w) ?a8)) (?tS ?eD) (?uY ?W))))))),?_⟩
 ext N
 refine ?s2 (?vW [?l,?d1,none,none,none] ?bS)
 . exact⟨_,rfl,p,Aj,fZ,FT,_,rfl,hpa,?p,?c5,tU,nm,_,rfl,?r (?iM),?s4 ⟨by rw[qa2,Pj];rfl,rfl⟩⟩
 ext cD;refine ?s2 (fun σ' H'=>Jp fun ?mJ=>?uV o3 none/\∃(d:Nat) (f:?d8) (l r:?bI),d<=5*m/\?f0/\?uJ H' l)
 . refine⟨gO,rfl,⟨_,LZ H⟩,?_⟩
   let A42:?cG:=fun g σ' G=>Jp fun ?mJ=>?uV o3 none/\∃(d:Nat) (f:?d8) (l r:?bI),d<=g*m/\?nX
   refine RM (K:=K) (a:=gO) (xs:=(([32,16,8,4,2]:?b9 Int).map ?aD)) A42 ⟨?i,?i,rfl,0,f,l,r,O9m,v0,x⟩ (fun g σ G _ _=>LZ G) ?_ ?_
   . rintro g y σ G hy Du
     and_intros
     obtain⟨o2,o3,rfl,d,f,l,r,hd,hv,z⟩:=Du
     have hg:∃gp:Nat,y=?f ?iD/\1<=gp/\gp<=32/\g<5:=by
      match g,hy with
      | 0,hy=>cases hy;exact(?sP 32)
      | 1,hy=>cases hy;exact(?sP 16)
      | 2,hy=>cases hy;exact(?sP 8)
      | 3,hy=>cases hy;exact(?sP 4)
      | 4,hy=>cases hy;exact(?sP 2)
      | g+5,hy=>simp at hy
     obtain⟨gp,rfl,g1,g2,g5⟩:=hg;refine⟨_,rfl,_,rfl,_,_,rfl,rfl,_,rfl,O9m,O9m,?_⟩;refine Cs (lo:=0) (n:=(?f9-?iD).toNat) (fun i σ' G=>E4 fun(o3:?gP)=>σ'=[?l,?d1,?uC ?iD,o3,none]/\∃(d:Nat) (f:?d8) (l r:?bI),d<=g*m+i/\?nX) ⟨o3,rfl,d,f,l,r,hd,hv,z⟩ ?_ ?_
     . rintro i σ G hi ⟨o3,rfl,d,f,l,r,hd,hv,z⟩;rw[qo9];ext rP
       have hm5:g*m+m<=5*m:=by
        have:=qb4 m (show g+1<=5 from g5);rw[qf4,qf3]at this;exact this
       refine⟨_,rfl,p,dxc,fsc,rfl,hpc,?mB,_,rfl,_,rfl,_,rfl,_,_,rfl,rfl,?_⟩;obtain⟨o1,o2',o3'⟩:=?tQ (i+gp);refine⟨H0,p,L,R,nm,n,w,m,i,i+gp,l,r,f,rfl,z,O9m,O9m,mn,mw,o1,?q3,?q0⟩
       . exact⟨_,rfl,d+1,f,l,r,O9m,o2' iE,z⟩
       . exact⟨_,rfl,d+1,_,_,_,O9m,?oP,z'⟩
     . rintro σ G ⟨o3,rfl,d,f,l,r,hd,hv,z⟩;refine⟨_,_,rfl,d,f,l,r,?_,hv,z⟩;rw[qf4,qf3];omega
   . rintro σ G ⟨o2,o3,rfl,d,f,l,r,hd,hv,z⟩;exact ?s4 ⟨o2,o3,rfl,d,f,l,r,hd,hv,z⟩
 refine sO fun o2 o3 G cB=>?_;intro sq;obtain⟨d,f,l,r,hd,hv,z⟩:=cB;refine⟨_,rfl,_,rfl,O9m,O9m,?_⟩;refine Cs (lo:=0) (n:=(?f9).toNat) (fun i σ' G=>Jp fun(o3 o4:?gP)=>?uV o3 o4/\∃(d:Nat) (f:?d8) (l r:?bI),d<=5*m+i*m/\?f0/\?n3 m i f/\?jQ) ⟨o3,?i,rfl,d,f,l,r,O9m,hv,fun a b ha=>O9m,z⟩ ?_ ?_
 . rintro i σ G hi ⟨o3,o4,rfl,d,f,l,r,hd,hv,hc,z⟩;rw[qf5]at hi;rw[qo9]
   have him:i*m+m<=m*m:=by
    have:=qb4 m (show i+1<=m from hi);rw[qf4,qf3]at this;exact this
   refine⟨_,rfl,_,_,rfl,rfl,_,rfl,_,_,rfl,⟨O9m,O9m,O9m,O9m⟩,?_⟩;refine Cs (lo:=?a7+1) (n:=?nJ) (fun j σ' G=>E4 fun(o4:?gP)=>?uV ?b8 o4/\∃(d:Nat) (f:?d8) (l r:?bI),d<=5*m+i*m+j/\?f0/\Lat.ChainAt m i (?fS) f/\?jQ) ⟨o4,rfl,d,f,l,r,O9m,hv,hc.at,z⟩ ?_ ?_
   . rintro j σ G hj Du
     and_intros
     obtain⟨o4,rfl,d,f,l,r,hd,hv,hc,z⟩:=Du;rw[show ?a7+1+(j:Int)=((?fS:Nat):Int) by omega];ext rP;refine⟨_,rfl,p,dxc,fsc,rfl,hpc,?mB,_,rfl,_,rfl,?_⟩;obtain⟨o1,o2',o3'⟩:=?tQ (?fS);refine⟨H0,p,L,R,nm,n,w,m,i,?fS,l,r,f,rfl,z,O9m,O9m,mn,mw,o1,?q3,?q0⟩
     . exact⟨_,rfl,d+1,f,l,r,O9m,o2' iE,hc.skip iE,z⟩
     . exact⟨_,rfl,d+1,_,_,_,O9m,?oP,hc.step O9m O9m sh.pair,z'⟩
   . rintro σ G ⟨o4,rfl,d,f,l,r,hd,hv,hc,z⟩;rw[show i+1+?nJ=m by omega]at hc;refine⟨_,_,rfl,d,f,l,r,?_,hv,hc.next,z⟩;rw[qf4,qf3];omega
 . rintro σ G ⟨o3,o4,rfl,d,f,l,r,hd,hv,hc,z⟩;rw[qf5]at hc;exact k d f l r _ hv hc z
noncomputable abbrev Ee:Stmt:=top 14
theorem Ki:?F ?g3 ?g3 (Au Ee):=Bf
theorem Kj[?I](F:Ew K ?fQ ?fQ Ee f fd)[?H](Uf:Has P w K mg ?e ?f8 ?fN 5 (U0 K)):?tU ?g3 Fo:=by
 refine ?t1 Ki;obtain⟨a,b,xs,n,ms,rfl,hL,hb,hm,hn,kq⟩:=h;refine⟨_,(?vZ (Bb (?sE X2 ?j) T.n_any aB (Aa (B5 (N':=["k",?D,?bE]) (cap:=[none,?c 0,?cO]) ?j ?aU (Cm ?j ?aR ?bM) (?s5 (?vJ 0 Aa5)) ?bP (?s5 (?uE Uf (Aa ?n (Aa ?k ?bM))))) Ae))),?_⟩;refine⟨_,rfl,_,rfl,O9m,O9m,?bQ⟩
 let A41:?bH:=fun i zs τ H1=>B6 (?h H H1) (H1 D=?uM zs) (zs=(?qH ?hP).map V.bl) (?t5 [o,?m,rS b])
 refine Il A41
  ?hE ?_ ?_
 . rintro i zs τ H1 hi Du;revert τ;refine Ij ?_;intro s1 Er hzs o Fc;have hi2:i<n:=O9m
   refine⟨_,rfl,_,rfl,_,rfl,a,b,xs,_,ms,rfl,?fD,?l6,hm,fun H2 s2=>?_⟩;refine⟨?vE Er,?b6 (by rw[hzs,qa2,qa2,qi8];omega),(?aF s2).turn hD,Ab,?_,_,rfl⟩;rw[qk6,qb1,qb1,hzs,show((0:Int)+?a7)=?a7 by omega];rfl
 . rintro zs τ H1 ⟨s1,Er,hzs,_⟩;rw[qf5]at hzs;refine⟨D,(?j1 n).map ?hP,rfl,.of (by rw[Er,hzs]),?_⟩;rw[List.any_map];exact kq _ s1
noncomputable abbrev Q1:Stmt:=top 29
theorem CP:?F ?eE ?eE (Au Q1):=Bf
theorem DC[?I](F:Ew K ?hA ?hA Q1 f fd)[?H](Jb:Has P w K mg ?e ?qZ ?eE 1 (HD K))(Le:Has P w K mg ?e ?fB [?cS] 5 (Wq K)):?tU ?eE Rv:=by
 refine ?t1 CP;obtain⟨v,xs,rfl,hL,hs,N4,k⟩:=h;refine⟨_,(?vZ (K8 (?uE Jb ?cX) (M0 (M1 vL (?uE Le ?cX) FE ?a0)))),?_⟩;refine⟨_,rfl,v,xs,rfl,hL,N4,_,rfl,?_⟩;refine bA ?j ?_;exact⟨_,rfl,v,xs,rfl,hL,hs,N4,fun H1 s1=>⟨rfl,k H1 s1⟩⟩
noncomputable abbrev Iu:Stmt:=?tT 58 1
theorem Ho:?F [?Q,"i",?j0] ?eC (Au Iu):=Bf
theorem Tw[?I](F:Ew K ?jT ?lQ Iu f fd)[?H](L5:Has P w K mg ?e ?nV [?gI] 1 (Rz K))[?rR](Lb:Jd P w K mg ?e Ad ?iF ?jC 5 (?s6 CI)):By P w K mg ?e En 6 f fd ?eC (?s6 Wu):=by
 refine ?t1 Ho;obtain⟨H0,p,q,M,n,W,t,i,s0,I,rfl,x,hi,P,ht,k⟩:=h;ext l0
 refine⟨_,(Af (?sN Ho.nd Am)
  (Af (Sa qb9 (?eY (fC (Bh Sf ?q ?n ?a0) (aO (?tF HQ)))) (Af (Cj (?tF E5) (?uB Lb (Aa ?q ?a8)) Bu)
  (Ak (?sN Ho.nd (?vP ?q)))))
  (Af (?u6 Fw)
  (Af (?u6 Fw)
  (Af (Br (Fw (K:=K) qc9 qr1 qr0 Tz ?R (?s3 ?q (?uE L5 (?w0 ?bZ)))))
  (Ak (Cj (?vT Sf (?w5 ?bZ ?bZ)) (?uB Cq (?vN Mz ?bM)) Bu))))))),?_⟩
 ext N
 refine ?sL [?l,iS i,?uC ?lW];ext cD;refine ?s2 (fun σ' H'=>Rs fun spot st s=>Kh ?fI (SX Ad H0 H' p q M n W t i s) ?qM ?oI (Hi W (s.1 i) st) ((spot<i->st<?cK)))
 . refine⟨fun m σ' G=>Jp fun spot s=>Ed ?fI (?sD G s) ?qM ?oI (m=i-spot),⟨_,0,s0,rfl,x,P.start,?bX,rfl⟩,?_⟩;rintro m σ G Du;refine QW ?_;intro _;obtain⟨spot,s,rfl,y,hI,hs,rfl⟩:=Du;obtain⟨st,hb⟩:=Hi.ex (P.ok ?s s hs hI);obtain⟨r,b,lx,_⟩:=y.ex;ext dD;ext kZ;obtain⟨ci,_,lJ,_,kE⟩:=?h1;refine⟨_,rfl,_,rfl,_,_,rfl,rfl,_,rfl,?_⟩;ext hB
   . have hlt:spot<i:=by have:?fT<?a7:=?bV
                         omega
     refine⟨_,rfl,p,Ad,dx,fs,_,rfl,hp,?u,?d6,l3,_,rfl,q,_,_,_,rfl,rfl,?mT,?tR hlt,_,rfl,p,Ad,dx,fs,_,rfl,hp,?u,?aL,l1,_,rfl,r,_,_,_,rfl,rfl,?cB,Bl lJ,ci,W,st,_,rfl,kE,hb,O9m,_,_,rfl,rfl,_,rfl,?_⟩;refine ?m4
     . have hle:t spot<=st:=by have:?lO:=?cQ
                               omega
       refine⟨fun σ' G'=>Jp fun GZ s'=>B6 (σ'=[?l,iS i,?c (?f ((GZ:Nat):Int))]) (?mP) (I GZ s') (GZ=?dC),?_,?_⟩
       . rintro σ' G' ⟨GZ,s',rfl,z1,z2,rfl⟩;exact⟨i-?b5,O9m,?dC,s',rfl,z1,z2,hlt,rfl⟩
       refine As (t:=?hM) (fun σ' G'=>?iR/\∃s',?mP/\I ?b5 s') ?_ ?qA;rotate_left
       . refine⟨_,rfl,p,Ad,dx,fs,_,rfl,hp,?u,?d6,l3,_,rfl,q,_,_,_,rfl,rfl,?mT,?tR hlt,_,rfl,p,Ad,dx,fs,_,rfl,hp,?u,?aL,l1,_,rfl,r,_,_,_,rfl,rfl,?cB,Bl lJ,ci,W,st,_,rfl,kE,hb,O9m,rfl,_,rfl,?_⟩;refine ite2 (fun h3=>?_) (fun h3=>?_)
         . have he:?cK=st:=by
            have:?g8=?i4:=?l5
            omega
           refine⟨_,rfl,p,dx,fs,rfl,hp,?dX,_,rfl,_,rfl,?_⟩;refine⟨H0,p,q,M,n,W,t,?s,i,s,I ?b5,rfl,y,hlt,hi,P.meet ?s s hlt hI (?nG) (by rw[he];exact hb.2.1),fun G' s' z1 z2=>?_⟩;exact X1 _ _ ⟨rfl,s',z1,z2⟩
         . have he:¬?cK=st:=by
            have:¬?g8=?i4:=?l5
            omega
           exact X1 _ _ ⟨rfl,s,y,P.skip ?s s hlt hI ?nG⟩
       rintro _ G' ⟨rfl,s',z1,z2⟩;exact⟨_,rfl,_,_,rfl,rfl,?dC,s',rfl,z1,z2,rfl⟩
     . have hle:¬t spot<=st:=by have:¬?lO:=?cQ
                                omega
       exact ?s4 ⟨?s,st,s,rfl,y,hI,hs,hb,fun _=>O9m⟩
   . have hlt:¬spot<i:=by have:¬?fT<?a7:=?bV
                          omega
     exact ?s4 ⟨?s,st,s,rfl,y,hI,hs,hb,fun z=>?j7 z hlt⟩
 refine LN fun spot st s G y hI hs hb hex=>?_;intro sq;obtain⟨r,b,lx,f1,f2⟩:=y.ex;ext dD;ext kZ;obtain⟨bs,xb,nb⟩:=lx.bk;obtain⟨pr,pb⟩:=lx.refs;have rb:=lx.ne;obtain⟨ci,rci,lJ,mci,kE⟩:=?h1;obtain⟨di,rdi,edi,mdi,hdi⟩:=?sE xb.row hi
 have six:∀l:Nat,i<l->seqIndex? ?pX l=?c i:=fun l hl=>by
  unfold seqIndex?;simp only[show ¬?pX<0 by omega,if_false,qf5]
  first | (rw[?eW]) | (rw[?aV (by omega)]) | (simp;omega)
 refine ?s2 (fun σ' H'=>Ef ?fI ((∀a,a≠r->H' a=G a)) (?vU r (insAt ?s (?d ci) ((?e5).eraseIdx i))))
 . refine⟨_,rfl,p,Ad,dx,fs,_,rfl,hp,?u,?aL,l1,?r ⟨rfl,_,?cB⟩,_,rfl,_,rfl,p,Ad,dx,fs,_,rfl,hp,?u,?aL,l1,?r ⟨rfl,_,?cB⟩,_,rfl,r,_,_,i,_,rfl,rfl,?eZ,O9m,O9m,six _ (by rw[qa2,xa.1];exact hi),lJ,?_⟩;refine(?v8 r (by ext rX));ext rX
 refine cC fun G1 e1 r1=>?_;intro sq;refine ?s2 (fun σ' H'=>Ef ?fI ((∀a,a≠b->H' a=G1 a)) (?vU b (insAt ?s (?d di) ((bs.map ?a5).eraseIdx i))))
 . have hp1:G1 p=_:=(e1 _ pr).trans hp;have b1:G1 b=_:=(e1 _ rb.symm).trans xb.2.1;refine⟨_,rfl,p,Ad,dx,fs,_,rfl,hp1,?u,?jH,l2,?s9 b1,_,rfl,_,rfl,p,Ad,dx,fs,_,rfl,hp1,?u,?jH,l2,?s9 b1,_,rfl,b,_,_,i,_,rfl,rfl,b1,O9m,O9m,six _ (by rw[qa2,xb.1];exact hi),edi,?_⟩;refine(?v8 b (by ext rY));ext rY
 refine cC fun G2 e2 b2=>?_;intro sq;have r2:=(e2 _ rb).trans r1;have YL:∀a,a≠r->a≠b->G2 a=G a:=fun a h1 h2=>(e2 a h2).trans (e1 a h1);have hp2:=(YL _ pr pb).trans hp;have qr:q≠r:=?u0 lx.nr ?p1;have qb:q≠b:=?u0 lx.nb ?p1;have q2:=(YL _ qr qb).trans y.st;obtain⟨ya,ma⟩:=xa.move hi hs rci r2 fun a ha=>YL a (na a ha).1 (na a ha).2.1;obtain⟨yb,mb⟩:=xb.move hi hs rdi b2 fun a ha=>YL a (?k5).1 ?qC;obtain⟨cs,_,ecs,_,hcs⟩:=?sE ya.row ?eK
 have Af8:Lat.moveR s.1 i ?s ?s=s.1 i:=by
  rw[Lat.move_row];unfold Lat.mvI;rw[?eW,?dT]
 rw[Af8]at hcs;refine ?s2 (fun σ' H'=>?iR/\SX Ad H0 H' p q M n W (?lN t ?s st) ?g6 (?nR))
 . refine⟨_,rfl,p,Ad,dx,fs,_,rfl,hp2,?u,?d6,l3,?s9 q2,_,rfl,_,rfl,p,Ad,dx,fs,_,rfl,hp2,?u,?aL,l1,_,rfl,r,_,_,_,rfl,rfl,.of r2,Bl (by rw[v7,T3]at ecs;exact ecs),cs,W,st,_,rfl,hcs,hb,O9m,?_⟩;refine⟨q,_,?s,_,rfl,rfl,q2,by rw[Bq];exact hs,?b6 (?jV),?s4 ?fU⟩;rw[EU hs];have qp:p≠q:=Ep hp y.st (by intro z;cases z);refine⟨⟨r,b,⟨⟨dx,fs,by rw[Al qp];exact hp2,l1,l2,l3,l4,l5⟩,⟨_,ya.put qr.symm fun a ha z=>(?oF).2.2 ?nD,fun a ha=>?oF⟩,⟨_,yb.put qb.symm fun a ha z=>(?pA).2.2 ?nD,fun a ha=>?pA⟩,rb,lx.nr,lx.nb,?iK⟩,f1,f2⟩,Ab,fun a o e=>?_,y.fp,y.fq,y.mq,⟨oX,OW,O9m⟩⟩
   . by_cases haq:a=q
     . rw[haq,Ab]at z;cases z
     . rw[Al haq,YL a (fun e=>lx.nr ?mZ) (fun e=>lx.nb ?mZ)]at z;exact lx.nn a ha z
   . rw[Al (Ap e y.fq),YL a (Ap e f1) (Ap e f2)];exact y.same _ _ e
 refine Ig fun G3 z=>?_;intro sq;obtain⟨r3,b3,l3x,_⟩:=z.ex;obtain⟨dx3,TY,hp3,l1,l2,l3,l4,l5⟩:=l3x.ob;obtain⟨as3,xa3,na3⟩:=l3x.rw;obtain⟨c3,_,ec3,_,hc3⟩:=?sE xa3.row ?eK;have NR:(?nR).1 ?s=s.1 i:=Af8;rw[NR]at hc3
 have RN:?lN t ?s st ?s=st:=by
  unfold Lat.insT;rw[?eW,?dT]
 refine⟨_,rfl,p,Ad,dx3,TY,_,rfl,hp3,?u,?aL,l1,_,rfl,r3,_,_,_,rfl,rfl,.of xa3.2.1,Bl ec3,_,rfl,p,Ad,dx3,TY,_,rfl,hp3,?u,?d6,l3,_,rfl,q,_,_,_,rfl,rfl,.of z.st,?hI,c3,_,_,_,rfl,rfl,hc3,Bl (by rw[RN];exact Ch hb.2.2),_,_,rfl,rfl,_,rfl,?_⟩;refine ?lK
 . have h5:s.1 i st<0:=?hS
   refine⟨_,rfl,p,dx3,TY,rfl,hp3,?dX,_,rfl,?b3,?fH⟩;have s1:?h G3 (?kI):=?dB;have hT:?t3 ?kI (.mi ?s):=⟨T1,_,rfl,?aK,⟨_,_,rfl,rfl,_,_,rfl,rfl,rfl⟩⟩
   generalize ?kI=G4 at s1 hT;refine⟨p,?e3,Ad,r3,b3,_,n,W,_,_,.mi ?s,rfl,?hU,l3x.keep s1,hT,?eK,?eK,O9m,O9m,fun r' b' G5 sx n1 n2 w=>?_⟩;refine k _ ?s st s hs hI hb hex ((z.redo s1 sx n1 n2 w).re ?_);rw[Lat.insS,?aV (by rw[NR];exact h5)];rfl
 . have h5:¬s.1 i st<0:=?hS
   refine k _ ?s st s hs hI hb hex (z.re ?_);rw[Lat.insS,?a3 (by rw[NR];exact h5)]
noncomputable abbrev W7:Stmt:=top 46
theorem Pg:?F [?D,?gY,?i6,?dR,?dY] ?i3 (Au W7):=Bf
theorem jO[?I](F:Ew K ?gA ?gA W7 f fd)[?H](Ek:Has P w K mg ?e ?fQ ?g3 6 (Fo K))(Re:Has P w K mg ?e ?nP [?gY,"faces",?dY] 2 (Rw K)):By P w K mg ?e En 7 f fd ?i3 (i9 K):=by
 refine ?t1 Pg;obtain⟨a,b,xs,ms,rfl,hL,hb,hm,h4,⟨kc,NI,hch⟩,kq⟩:=h;ext kX
 refine⟨_,(Af (Cj (Ht (Gw (?uE Ek (Aa ?k (?s3 ?n (?vL 4)))))) ?kF Bu)
  (Af (?sN Pg.nd Se)
  (Af (fD (Cn qb9 rfl (Ol ?n) (?u5 (?vJ 3 Pg.nd) (?tS Pg.nd)) (Ak (Br (?uE Re (?w2 (?w5 ?k ?w) ?W))))))
  (?vZ ?q)))),?_⟩
 ext N
 refine⟨_,rfl,_,rfl,a,b,xs,4,ms,rfl,hL,hb,hm,?t,?r0⟩;have hany:((?j1 4).any ?hP)=true:=qm8.mpr ⟨kc,qd8.mpr NI,hch⟩;refine ?dL;rw[hany];ext eQ;have hL1:=?fD;have hb1:=?l6;refine ?bQ;have JR:b≠D:=Ap hb1 hD;have s2:?h H1 (?o8):=?j4;have hL2:=?x s2 hL1;have hb2:=?vE hb1;generalize YJ:?o8=H2 at s2 hL2 hb2;have Su:H2 D=?c (.dK []):=by rw[←YJ];exact Ab
 refine ?L ⟨b,?aE,hb2,?mK⟩;refine⟨_,rfl,b,o,?aE,rfl,Ab,?_⟩
 let A40:?cG:=fun i σ G=>Jp fun o1 o2=>B6 (σ=[?m,rS b,?J,o1,o2]) (G b=?c (?sO o)) (G D=?uZ (?jR)) ((∀c q,c≠b->c≠D->H2 c=?c q->G c=?c q))
 refine Ui (d:=b) (o:=o) (kvs:=?aE) A40
  ⟨?i,?i,rfl,Ab,?_,?_⟩ (fun i σ G _ hz=>by obtain⟨_,_,_,e,_⟩:=hz;exact e) ?_ ?_
 . rw[?dP];exact Su
 . intro c q n1 n2 e;rw[Al n1];exact e
 . rintro i kk x σ G p hx Du hp
   and_intros
   revert σ;refine U8 ?_;intro o1 o2 tW Eo hkG Fc;obtain⟨q,hq,rfl,rfl⟩:=Yx hx;have npb:b≠p:=Ap tW hp;have npD:D≠p:=Ap Eo hp;have hlt:?pE:=?oR;have hqd:?iS=q:=by rw[qa4,hq];rfl
   have hpart:=qe9.mp hch q (qc6 hq)
   have hin:0<=q.1/\q.1<?pT:=by
    unfold Nt at hpart;rw[qc3]at hpart;exact CU hpart.1
   have sp:?tN G G:=?gZ
   have rJ:LT K G ?fG xs:=by
    have e1:Qj b H2 (?v6 o):=fun c r n e=>by rw[Al n];exact e
    have l1:=Rep.x e1 hb2 hL2;have d1:(?v6 o) D=?c (.dK []):=by rw[?dP];exact Su
    have e2:Qj D (?v6 o) G:=fun c r n e=>by
     by_cases z:c=b
     . subst z;rw[Ab]at e;cases e;exact tW
     . rw[Al z]at e;exact hkG c r z n e
    exact Rep.x (m:=[]) e2 d1 l1
   obtain⟨us,v,TV,hat,tv⟩:=LT.get (?x sp rJ) hin.1 hin.2;ext kR
   have hfl:(?lU).length<=4:=by
    rcases Kq (l:=xs) (i:=?pM) (d:=[]) with z | z
    . exact h4 _ z
    . rw[z];exact ?bX
   have hbl:=q9 h4 ms i;refine⟨_,rfl,_,rfl,_,rfl,a,us,_,v,rfl,rfl,TV,hat,_,rfl,D,v,?jR,?lU,q.2,rfl,sp _ _ Eo,tv,O9m,fun G2 VB dR=>?_⟩;refine⟨_,_,rfl,VB _ _ JR (sp _ _ tW),?_,fun c r n1 n2 e=>?_⟩
   . rw[dR];show _=?c (HO.dK (cK (GN (?jR) (?e8 (?iS).1.toNat []) (?iS).2)));rw[hqd]
   . exact VB c r n2 (sp _ _ (hkG c r n1 n2 e))
 . ext eO;refine U8 ?_;intro o1 o2 tW Eo hkG Fc;rw[Rk]at Eo;refine⟨tW,_,rfl,kq D _ (s1.free hD) (fun c q e=>?_) (by rw[?dP];exact Eo)⟩;by_cases z:c=b
   . subst z;rw[hb]at e;cases e;exact Ab
   . rw[Al z];exact hkG c q z (Ap (s1 _ _ e) hD) (?vE (s1 _ _ e))
noncomputable abbrev To:Stmt:=top 57
theorem Mm:?F [?S,?a9,"lines","stairs","i",?eH] ?hW (Au To):=Bf
theorem FF[?I](F:Ew K ?fW ?fW To f fd)[?H](Ua:eL P w K mg ?e Ad ?eB 2 (?s6 cJ))(Kd:?v1 P)(I0:Jd P w K mg ?e Ad ?jT ?eC 6 (?s6 Wu))(Iz:Jd P w K mg ?e Ad ?iY ?a4 5 (?s6 Wt)):By P w K mg ?e En 7 f fd ?hW (?s6 U2):=by
 refine ?t1 Mm;obtain⟨v,L,r,b,sv,N,n,w,M,P,PB,J,rfl,hv,lx,hn,hw,TJ,j0,jt,k⟩:=h;obtain⟨ta,us,rfl,Vw,X6,Nb⟩:=Hf hv;ext dD;obtain⟨ps,xp,np⟩:=lx.rw;obtain⟨bs,xb,nb⟩:=lx.bk;have nN:∀a,?e0->¬N a:=fun a e z=>lx.nn a z e
 refine⟨_,(Af (Av (i:=3) Mm.nd (Ly Ua hr ?j T.m_Stairs (Aa (B5 (N':=[?gI,"paper"]) (cap:=[none,none]) ?j ?aU (aQ (K:=K) ?j T.n_zip (?s3 ?k (Ba (K:=K) ?q))) (?s5 (?u5 (?vJ 0 MQ) (?vJ 1 MQ))) ?bP (?s5 (Bp (T8 (K:=K)) ?k ?n))) (?w0 (?uQ (Aa (?sE Ba ?q) Ae))))))
  (Af (Cn qb9 rfl (?sW (?uA ?cX)) (?tS Mm.nd) (Af (Br (Df ?w ?u I0 hr (?w0 ?W)))
  (Ak (Br (Js ?w ?u Iz hr)))))
  (Af (Av (i:=5) Mm.nd (Ly Kd hr ?j T.m_Lines (Aa (B5 (N':=?n0) (cap:=?m7) ?j ?aU (?sE Ca (Ba (K:=K) ?w)) (?s5 (?vJ 0 mP)) ?bP (?s5 (Ex ?cM ?k (Fj ?n) Gx))) (?w0 (?sE Ba ?w)))))
  (?vZ (D5 (Aa (B5 (N':=?n0) (cap:=?m7) ?j ?aU (?sE Ca (Ba (K:=K) ?w)) (?s5 (?vJ 0 mP)) ?bP (?s5 (Ex ?cM ?k Gx (Fj ?n)))) ?bU)))))),?_⟩
 ext N
 refine ?s2 (fun σ' H'=>Jp fun p q=>σ'=[?b7,?aQ,rS L,?l,none,none]/\SX Ad H H' p q (fun a=>?h3) n ?cY (fun _=>0) 0 (?r6,PB))
 . refine⟨_,rfl,_,rfl,L,Ah,dx,fs,_,rfl,hp,?b0,?jI,l1,ta,r,rfl,⟨_,Vw⟩,⟨_,?l7⟩,?bQ⟩
   refine aA (K:=K) (a:=ta) (b:=r) (xs:=us) (ys:=ps.map ?a5) (n:=n) (by rw[X6,qa2,xp.1,qt3]) (fun i zs τ H1=>E4 fun cs=>B6 (zs=cs.map ?a5) (cs.length=i) (Rows H H1 D cs ?cY (?r6)) (Jp fun o1 o2=>τ=[o1,o2]))
    ⟨[],rfl,rfl,?kN hD,?i,?i,rfl⟩ (fun i zs τ H1 _ hz=>by obtain⟨cs,_,_,R,_⟩:=hz;exact⟨?cC Vw,?cC (?l7)⟩) ?_ ?_
   . rintro i x y zs τ H1 pr hx hy ⟨cs,rfl,hcl,R,o1,o2,rfl⟩ hpr;obtain⟨hi,bx,rfl,hbx⟩:=Nb i x hx;obtain⟨cy,_,ey,_,hcy⟩:=?sE xp.row hi;rw[ey]at hy;cases hy;have sp:?h H1 (?sT cy):=?z hpr;refine(?t7 pr);refine⟨_,rfl,_,rfl,bx,cy,_,_,rfl,rfl,sp.seq (?cC hbx),sp.seq (?cC hcy),B9 (by rw[Bq,Bq];omega),?jY⟩;have sE:?h (?sT cy) (upd (?sT cy) E (?o (VI w (M i)++VI n (P i)))):=?z hE;refine⟨sE _ _ (sp _ _ R.at),?gN,cs++[E],?k7,?m0,?_,_,_,rfl⟩;refine ?kJ (sp.free hE) (?pV sE) ?_;rw[hcl,Ab,GO (h:=?pL w M P i) (fun c hc=>Lat.beside_lo hc) (fun a _=>Lat.beside_hi w M P i a)]
   rintro zs τ H1 ⟨cs,rfl,hcl,R,_⟩;have hp1:=?oE;refine⟨_,rfl,L,Ah,dx,fs,_,rfl,hp1,?b0,?hO,l2,b,_,rfl,?r (.of (?aM _ _ xb.2.1)),fun B hB=>?_⟩;intro p OZ np' tF vP;have s2:?h H1 (?lL):=?z hB;have hB2:upd H1 B (?o (bs.map ?a5)) B=?uM (bs.map ?a5):=Ab;generalize ?lL=H2 at s2 hB2 np' tF;have s3:?h H2 (?qO):=?gL np';have zP:=(?fL s2).trans s3;have f2:∀a,H2 a=none->?e0:=fun a e=>(?fL s2).free e;refine⟨p,OZ,_,_,rfl,Ab,fun q H4 fs' hq hfs sx hq4 Pl=>?fU⟩;generalize ?qO=H3 at s3 zP hq sx;have f3:∀a,H3 a=none->?e0:=fun a e=>zP.free e;have st:∀a o,H2 a=?aT->?n2:=?tB np';have xc:=(?i1 s2)
   have PF:TA H2 B bs n n PB:=⟨xb.1,hB2,fun i c e=>?vE (?aM _ _ (xb.2.2 i c e))⟩
   have hHB:H B=none:=?m2 hB;have A00:=?vE R.at
   have q2:H2 q=none:=s3.free hq;have nM:∀a,H2 a≠none->¬N a->¬(?h3):=fun a h1 h2 h3=>h3.elim (?u0 h1 (z▸q2)) h2;refine ?s4 ⟨p,q,rfl,⟨⟨D,B,⟨⟨OZ,fs',Pl,?_,?_,?_,?jN,?_⟩,⟨cs,xc.same st,?dI⟩,⟨bs,PF.same st,?dI⟩,?_,?_,?_,?iK⟩,?dM,hHB⟩,hq4,fun a o e=>?l8,f2 _ np',f3 _ hq,?bB,⟨O9m,O9m,?bX⟩⟩⟩
   . rw[hfs];ext aG
   . rw[hfs];ext aG
   . rw[hfs];ext aG
   . rw[hfs,An,?cZ,An,?cZ,An,?cZ];rfl
   . rw[hfs];exact qa6 (B8 _ _ _) (qa6 (qi4 (B8 _ _ _)) (qa6 (qi4 (qi4 (B8 _ _ _))) ?b4))
   . ext rM;exact⟨z2,Ap z3 hB,nM _ (by rw[?vE z3];ext hD) (nN _ z1)⟩
   . have:=?lP a ha;refine⟨?u0 this ?j6,?u0 this (z▸hHB),nM a (PF.there.2 a ha) ?oW⟩
   . exact Ap R.at hB
   . exact nM D (by rw[A00];ext hD) (nN _ ?dM)
   . exact nM B (by rw[hB2];ext hD) (nN _ hHB)
   . rcases ha with rfl | ha
     . rw[hq4]at z;cases z
     . cases e:H a with
       | none=>exact ?mV
       | some o=>rw[?l8]at z;cases z
 refine sO fun p q H1 x0=>?_;intro sq;refine ?s2 (fun σ' H'=>?vS (?v0 H' n) n)
 . refine⟨_,rfl,ta,us,rfl,?r (x0.same.seq Vw),_,rfl,O9m,O9m,?_⟩;refine Cs (lo:=0) (n:=(?p8:Int).toNat) (fun i σ' G=>?vS (?v0 G i) i) ⟨?i,_,_,rfl,x0,j0 _⟩ ?_ ?_
   . rintro i σ G hi Du;revert σ;refine TQ ?_;intro o4 t s y hJ Fc;rw[qf5,X6]at hi;rw[qo9];obtain⟨I,hP,hD⟩:=TJ.step i t s hi hJ;obtain⟨r3,b3,ly,_⟩:=y.ex;obtain⟨dx3,TY,hp3,_,_,_,m4,_⟩:=ly.ob;refine⟨_,rfl,p,dx3,TY,rfl,hp3,?oM,_,rfl,H,p,q,_,n,w+n,t,i,s,I,rfl,y,hi,hP,jt i t s hJ,fun G1 spot st s' hs hI hb hex z=>?_⟩;obtain⟨d1,d2⟩:=hD ?s st s' hs hI hb hex;obtain⟨r4,b4,lz,_⟩:=z.ex;obtain⟨dx4,fs4,Pl,_,_,_,m5,_⟩:=lz.ob;refine⟨_,rfl,p,dx4,fs4,rfl,Pl,?m9,H,p,q,_,n,w+n,_,i,_,rfl,z,d1,fun G2 z2=>?_⟩;exact⟨_,_,_,rfl,z2,d2⟩
   . ext eO;refine TQ ?_;intro o4 t s y hJ Fc;rw[qf5,X6]at y hJ;exact ?s4 ⟨o4,t,s,rfl,y,hJ⟩
 refine yZ fun o4 t s G y hJ=>?_;intro sq;obtain⟨r,b,ly,f1,f2⟩:=y.ex;obtain⟨dx,fs,hp,l1,l2,l3,l4,l5⟩:=ly.ob;obtain⟨as,xa,na⟩:=ly.rw;obtain⟨bs,xb,nb⟩:=ly.bk;have s0:=y.same;refine ?s2 (fun σ' H'=>Jp fun(L' E:Addr)=>Ed (σ'=[?b7,?aQ,rS L,?l,o4,rS L']) (?uW G) (H L'=none) (H E=none) (LX H' Ah L' E b ?i n n ?k1 N))
 . refine⟨_,rfl,p,Ad,dx,fs,_,rfl,hp,?u,?aL,l1,r,rfl,⟨_,?cB⟩,?jY⟩;have xa':=?eZ
   let A39:?bH:=?sB (Rows G G1 E cs n (?pU))
   refine ?sI A39 ⟨[],rfl,rfl,?kN hE,?i,rfl⟩
   . ext rJ
     ext rQ;refine(?tA hc);have sF:?h G1 (?tE ?nS ?i):=?z hF;ext rI;rw[hcl,Ab,sI]
   ext rT;have hp1:=?oE;refine⟨_,rfl,p,Ad,dx,fs,_,rfl,hp1,?u,?jH,l2,?_⟩;intro L' BJ nL tF vP;have s3:?h G1 (?kG):=?gL nL;refine⟨L',BJ,Ah,_,_,rfl,?bB,Ab,fun H4 fs' hfs hH4=>?fU⟩;have sx:?bT L' (?kG) H4:=by rw[hH4];exact ?e4 (?gX)
   have hL4:H4 L'=?c (?M Ah BJ fs'):=by rw[hH4];exact Ab
   clear hH4;generalize ?kG=G3 at s3 sx;have st:∀a o,G1 a=?aT->?n2:=?tB nL;have nN':∀a,G a=none->¬N a:=fun a e=>nN a (?i2 e);refine ?s4 ⟨L',E,rfl,?fL st,?i2 (?m2 nL),?i2 ?dM,⟨⟨BJ,fs',hL4,?_,?_,?_,?jN,?_⟩,⟨cs,?i1 st,?dI⟩,⟨bs,(xb.same ?aM).same st,?dI⟩,?_,nN' _ ?dM,?_,?iK⟩⟩
   . rw[hfs];ext aG
   . rw[hfs];ext aG
   . rw[hfs];ext aG
   . rw[hfs,An,?cZ,An,?cZ];rfl
   . rw[hfs];exact qa6 (B8 _ _ _) (qa6 (qi4 (B8 _ _ _)) ?b4)
   . ext rM;exact⟨z2,?u0 ?nZ (z▸z1),nN' _ z1⟩
   . exact⟨fun z=>?lP a ha ?j6,?qC,?u0 ?oW (?L z)⟩
   . exact ?u0 ?nZ ?j6
   . exact ?u0 ly.nb (?L z)
   . cases e:H a with
     | none=>exact ?mV
     | some o=>rw[st _ _ (?aM _ _ (s0 _ _ e))]at z;cases z
 refine lO fun L' E G4 s4 fL fE lx4=>?_;intro sq;have Pl:=s4 _ _ hp;have xa':=s4 _ _ ?eZ;refine⟨_,rfl,p,Ad,dx,fs,_,rfl,Pl,?u,?aL,l1,r,rfl,⟨_,.of xa'⟩,?bQ⟩
 let A38:?bH:=?sB (Rows G4 G1 D cs w (fun x a=>s.1 x a))
 refine ?sI A38 ?mN
 . ext rJ
   ext rQ;refine(?tA (s4.seq hc));have sF:?h G1 (?tE ?i ?nS):=?z hF;ext rI;rw[hcl,Ab,Ah1]
 ext rT;refine⟨_,rfl,?b3,?qU⟩;have s5:?h G1 (upd G1 tp (?G ?mX)):=?z htp;have sU:=?fL s5;exact k tp D L' E b cs t s _ ((s0.trans s4).trans sU) hJ (?aK) (?i1 s5) (lx4.keep sU) ((s0.trans s4).free ?dM) fL fE f2
noncomputable abbrev J5:Stmt:=top 49
theorem Iq:?F [?D,"k","below","columns"] ?gR (Au J5):=Bf
theorem Vr[?I](F:Ew K ?fO ?fO J5 f fd)[?H][?kS][?kQ][?eM](Ox:Has P w K mg ?e ?pK ["spots",?gY] 1 (P8 K))(bF:Has P w K mg ?e ?gA ?i3 7 (i9 K)):By P w K mg ?e En 8 f fd ?gR (No K):=by
 refine ?t1 Iq;obtain⟨a,xs,k,rfl,hL,N4,h4,h0,h5,kq⟩:=h;ext kX
 refine⟨_,(Af (?w1 (Bp Ei (?vL 4) Am))
  (Af (Av (i:=2) Iq.nd (?uE Bo (?s3 ?k (Bp K9 ?n Am))))
  (Af (HK (N':=[?dR,"below",?D]) (cap:=[none,?c 2,?c 0]) (i:=3) Iq.nd ?j (by first | exact Or.inl rfl | exact Or.inr rfl) ?j ?aU (?sE Ca (?uE Bo ?dZ)) (?s5 (?vJ 0 vV)) ?bP (fun _ _ _ _=>(?uE Ox (?s3 ?n (Aq bF hr (Aa ?q (?w0 (qH (MB ?k Am QA) ?j ?j (by intro z;cases z) (Nat.le_of_ble_eq_true rfl)))))))))
  (?vZ (?w3 ?w ?bM))))),?_⟩
 ext N
 refine⟨_,rfl,_,_,rfl,rfl,k,5,rfl,h0,h5,?_⟩;refine ?sL [?m,?a1,none,none];ext cD;refine ?s2 (fun σ' H'=>E4 fun(B:Addr)=>Ef (σ'=[?m,?a1,rS B,none]) ?cR (?vU B ((?eA).map ?aD)))
 . refine⟨_,rfl,_,rfl,_,_,rfl,rfl,a,k-1,xs,rfl,hL,N4,fun B H1 hB s1 hB1=>?_⟩;exact ?s4 ⟨B,rfl,s1,hB1⟩
 refine Uv fun B H1 s1 hB=>?_;intro sq;have hL1:=?fD;have bl:?fZ<=1000:=?n8;have cl:?gC<=1000:=?n8;refine ?s2 (fun σ' H'=>Jp fun(C:Addr) ?i5=>Ef (σ'=[?m,?a1,rS B,rS C]) (as.length=?gC) (Rows H1 H' C as ?fZ (?uO 0)))
 . refine⟨_,rfl,_,rfl,a,k,xs,rfl,hL1,N4,fun P H2 hP s2 hP2=>?_⟩;refine⟨P,rfl,⟨_,.of hP2⟩,?bQ⟩
   let A37:?bH:=fun i ys τ G=>E4 fun ?i5=>B6 (as.length=i) (ys=?e5) (Rows H2 G D as ?fZ (?uO 0)) (?t5 [o,rS B,?m])
   refine Cr (K:=K) (a:=P) (xs:=(?gH).map ?aD) A37
    ?mN (fun i ys τ G _ hz=>by obtain⟨_,_,_,R,_⟩:=hz;exact ?sF ?aM hP2) ?_ ?_
   . rintro i x ys τ G hx ⟨as,hal,rfl,R,o,rfl⟩;have hi:i<?gC:=by have:=?p7;simpa using this
     have hxv:x=?f (?jB):=by
      rw[qa9,?cI]at hx;rw[qa4,?cI];simpa using hx.symm
     subst hxv
     have hmem:?jB∈?gH:=by
      rw[qa4,?cI];exact qe8 hi
     obtain⟨q0,q1,q2⟩:=Et hmem;generalize hpe:?jB=pl at q0 q1 q2;have Aw5:Hu [] [(Sum.inl pl,?aD 1)]=cK ?bO:=rfl;have sG:=?dA ?aM;refine⟨_,rfl,_,rfl,fun e he=>⟨_,rfl,Ab,[(Sum.inl pl,?aD 1)],rfl,?c9,?_⟩⟩;rw[Aw5]
     have e3:upd (upd G e (.dK [])) e (.dK (cK ?bO))=?fX:=by
      funext b
      by_cases hb:b=e
      . subst hb;rw[Ab,Ab]
      . rw[Al hb,Al hb,Al hb]
     rw[e3];have g1:?h G (?fX):=?z he;have he1:(?fX) e=?uZ ?bO:=Ab;generalize ?fX=G1 at g1 he1
     have wO:?nE<=4:=by
      rcases Kq (l:=xs) (i:=pl.toNat) (d:=[]) with z | z
      . exact h4 _ z
      . rw[z];exact ?bX
     have X7:Ni xs k ?bO=true:=by
      unfold Ni Nt;rw[List.all_cons,List.all_nil,Bool.and_true,qc3];refine⟨?_,?c9⟩;show(?cH (0<=pl)&&?cH (pl<?pT)&&?cH (Dh ?nE=k))=true;rw[qg3 q0,qg3 q1,qg3 q2];rfl
     have hk3:k<4:=by
      rw[←q2];unfold Dh;split<;>omega
     refine⟨a,e,xs,?bO,rfl,?x (?iO g1) hL1,he1,?c9,h4,⟨k.toNat,O9m,by rw[?qJ];exact X7⟩,fun E2 G2 hE2 g2 A03=>?_⟩;refine⟨B,E2,?eA,Em xs ?bO,rfl,?sF ((?iO g1).trans g2) hB,?r A03,bl,fun D2 G3 Su g3 BG=>?_⟩;have gG:=(?gW).trans g3;refine⟨gG _ _ R.at,?gN,as++[D2],by simp[hal],?k7,?kJ ((?gW).free Su) gG ?_,_,rfl⟩;rw[BG,qV,hal,hpe]
     congr 3
     apply m9;intro i' _;exact Yy xs pl _
   . rintro ys τ G ⟨as,hal,rfl,R,_⟩;rw[qa2]at hal;exact ?s4 ⟨D,as,rfl,hal,R.earlier s2⟩
 refine SN fun C as H2 hal R=>?_;intro sq;refine⟨_,rfl,_,rfl,B,_,rfl,?r (?sF ?aM hB),?d C,?gC,?fZ,_,by rw[qa2];rfl,R.rep hal,cl,bl,fun D GL H3 WS R3=>?_⟩;exact kq D GL H3 WS (R3.earlier (?aF ?aM))
noncomputable abbrev Og:Stmt:=Eb ?fE 2
theorem Jh:?u2 [?Q,"height","by_rows","by_columns"] Og:=Bf
theorem aS[?I](F:Ew K ?jL ?p4 Og f fd)[?H](Ss:Has P w K mg ?e ?fW ?hW 7 (?s6 U2))[?eM]:?u9 8 CJ:=by
 refine ?t1 Jh;obtain⟨H0,p,L,R,nm,n,w,M,l,r,ns,Nx,rfl,x,ok,k⟩:=h;obtain⟨oX,OW⟩:=x.sm;ext kO;ext kT
 ext hC
 obtain⟨ta,us,rfl,hq,X6,_⟩:=Hf hrep;obtain⟨J1,T1,j10,j1t,j1n⟩:=ok.ex;have Ad0:=?k2
 replace hq:=?oC
 refine⟨_,(Af (Av (i:=1) Jh.nd ?fM)
  (Af (?sN Jh.nd (?uE Ss (Aa ?R (Aa ?R ?c7))))
  (Af (?vV Jh.nd (?uE Ss (Aa (Aq Cu hr (Aa ?bA ?c7)) (Aa ?n ?c7))))
  (Af (?sS (?uE Cu (Aa (Bd ?aP ?w Am ?B) ?a8)))
  (Af (?sS ?bA)
  (Ak (?sS (?uF ?w)))))))),?_⟩
 ext N
 refine ?s2 (?vW [?l,?hX,none,none] ?bS)
 . refine⟨_,rfl,p,Aj,dx,fs,_,rfl,hp,?p,?c2,l1,ta,us,rfl,?r hq,?s4 ⟨by rw[X6];rfl,rfl⟩⟩
 ext cD;refine ?s2 (fun σ' H'=>UK fun(tp D L' r1' UB:Addr) ?i5 ?kH ?iE=>GR (σ'=[?l,?hX,?T,none]) ?cR (J1 n t s) (Dy K H' tp ?mX) (TA H' D as n w s.1) (?uP L' ?k1) (H L'=none) (H r1'=none) (H UB=none))
 . refine⟨_,rfl,p,Aj,dx,fs,_,rfl,hp,?p,?c2,l1,_,rfl,p,Aj,dx,fs,_,rfl,hp,?p,?j5,l2,_,rfl,p,Aj,dx,fs,_,rfl,hp,?p,?cJ,l3,?k9,L,r1,b1,?i,_,n,w,M,l.1,l.2,J1,rfl,Ad0,lx,oX,OW,T1,j10,j1t,fun tp D L' r' b' as t s H1 s1 hJ hT xD lx1 _ fL fr fb=>?_⟩;exact ?s4 ⟨tp,D,L',r',b',as,t,s,rfl,s1,hJ,hT,xD,lx1,fL,fr,fb⟩
 refine SM fun tp D L' r1' UB as t s H1 s1 hJ hT xD lx1 fL fr fb=>?_;intro sq;obtain⟨J2,T2,j20,j2t,j2n⟩:=j1n t s hJ;have hp1:=?kB;refine ?s2 (fun σ' H'=>UK fun(uU D2 R' r2' pB:Addr) (GL:?r5) (t2:?mL) (s2:?bI)=>GR (σ'=[?l,?hX,?T,rS uU]) (?uW H1) (J2 w t2 s2) (Dy K H' uU [?dK,?d R']) (TA H' D2 GL w n s2.1) (LX H' Ah R' r2' pB ?i w w (fun x a=>s2.1 x (n+a),s2.2) (?f7)) (H1 R'=none) (H1 r2'=none) (H1 pB=none))
 . refine⟨_,rfl,tp,_,_,_,rfl,rfl,hT,rfl,_,rfl,p,Aj,dx,fs,_,rfl,hp1,?p,?j5,l2,?d D,n,w,s.1,rfl,xD.rep,O9m,O9m,fun F fas H2 hl2 R2=>?_⟩;have hp2:=?dF _ _ hp1;refine⟨_,rfl,_,rfl,p,Aj,dx,fs,_,rfl,hp2,?p,?eG,l4,?gD,R,r2,b2,?i,_,w,n,(fun i j=>s.1 j i),r.1,r.2,J2,rfl,R2.rep hl2,ly.keep (?aF ?dF),OW,oX,T2,j20,j2t,fun uU D2 R' r' b' GL t2 s2 H3 s3 hJ2 hT2 xD2 wA _ fR RK fb2=>?_⟩;exact ?s4 ⟨uU,D2,R',r',b',GL,t2,s2,rfl,?kM s3,hJ2,hT2,xD2,wA,?kD fR,?kD RK,?kD fb2⟩
 refine SM fun uU D2 R' r2' pB GL t2 s2 H3 s3 hJ2 hT2 xD2 wA fR RK fb2=>?_;intro sq;have hp3:=s3 _ _ hp1;have hT3:=s3.seqT hT;refine⟨_,rfl,uU,_,_,_,rfl,rfl,hT2,rfl,_,rfl,?dK,w,n,s2.1,rfl,xD2.rep,O9m,O9m,fun E eas H4 wO R4=>?_⟩;have pU:=R4.same;have Pl:=pU _ _ hp3;have sV:?h H0 H4:=((x.same.trans s1).trans s3).trans pU;have n4:=(?aF ?pW) _ _ x.nu;have Ar7:Rep K (Sq H4 ?f7) (?d E) (dT n w fun i j=>s2.1 j i):=R4.hid wO fun a ha z=>by cases ha;rw[(?aF s3) _ _ x.nu]at z;cases z
 have hT4:=pU.seqT hT3;have Ay8:=pU.seqT hT2
 have ex:∀a,?r4->H4 a≠none:=fun a ha=>by
  rcases ha with rfl | rfl | rfl
  . rw[n4];ext hD
  . obtain⟨_,z,_⟩:=wA.rw;exact ?mG
  . obtain⟨_,z,_⟩:=wA.bk;exact ?mG
 have z1:LX H4 Ah L' r1' UB ?i n n ?k1 (fun a=>?r4):=lx1.more ?pW (fun a ha=>by
  rcases ha with rfl | rfl | rfl
  . exact ?r (?bB)
  . exact ?L RK
  . exact ?L fb2) ex
 have z2:=wA.keep pU;have QO:p≠L':=Ap hp fL;have tE:p≠R':=Ap hp1 fR;have LR:L'≠R':=fun z=>by obtain⟨_,_,q,_⟩:=lx1.ob;rw[z,fR]at q;cases q
 refine⟨_,rfl,p,Aj,dx,fs,rfl,Pl,?p,?c2,O9m,?_⟩;have UY:?bT p H4 (?iT):=?gX;have DQ:upd H4 p (?sY E) p=?c (?sY E):=Ab;have yF:Kp H4 (?iT):=Kp.upd;have e1:?nF=fs.length:=Lw l1;generalize ?iT=H5 at UY DQ yF;have hT5:=gZ hT4 Pl UY;have Ay7:=gZ Ay8 Pl UY;refine⟨_,rfl,tp,_,_,_,rfl,rfl,hT5,rfl,_,rfl,p,Aj,dx,_,rfl,DQ,?p,?cJ,O9m,?_⟩;have e2:?lD=?nF:=Lw (x:=?d L) (by rw[An,?gE];exact l3);have CF:?bT p H5 (?jU):=?gX;have hp6:upd H5 p (?vG E) p=?c (?vG E):=Ab;have kp6:Kp H5 (?jU):=Kp.upd;generalize ?jU=H6 at CF hp6 kp6;refine⟨_,rfl,uU,_,_,_,rfl,rfl,gZ Ay7 DQ CF,rfl,_,rfl,p,Aj,dx,_,rfl,hp6,?p,?eG,O9m,?_⟩;have e3:(?K ?eJ (?a5 R') (?nC)).length=?lD:=Lw (x:=?d R) (by rw[An,?gE,An,?gE];exact l4);have sx:?bT p H4 (?uR p):=?e4 (UY.trans CF);have kp:Kp H4 (?uR p):=(yF.trans kp6).trans Kp.upd;have g0:∀a,?e0->?nN:=fun a e=>x.same.free e;have g1:∀a,?pS->?nN:=fun a e=>?hY e;have npn:nm≠p:=Ep x.nu hp (by intro z;cases z)
 refine k L' R' _ _ _ _ (j2n t2 s2 hJ2) ⟨⟨?d E,dx,_,Ab,?_,?_,?_,?_,?_,?jN,O9m,fun M' e=>by
  cases e
  exact A26 (p:=p) (dx:=dx) (C:=Aj) Ar7 (by rw[X9 npn.symm];exact Pl) (fun a o ne e=>by
   by_cases z:a=nm
   . rw[KA z]at e;cases e
   . rw[X9 z]at e ⊢;exact sx _ _ ne e)⟩,⟨r1',UB,r2',pB,z1.x Pl QO sx kp,z2.x Pl tE sx kp,g0 _ fr,g0 _ fb,g1 _ RK,g1 _ fb2⟩,sx _ _ npn n4,sx.same sV x.fr.1,⟨x.fr.1,g0 _ fL,g1 _ fR,?r1⟩,⟨QO,tE,LR⟩,⟨oX,OW⟩⟩
 . ext aG
 . ext aG
 . ext aG
 . ext aG
 . ext aG
 . iterate 3 rw[An,?cZ]
   exact l6 m hm
noncomputable abbrev Gv:Stmt:=Eb ?fE 1
theorem J3:?u2 ?eC Gv:=Bf
theorem Rb[?I](F:Ew K ?iL ?mE Gv f fd)[?H](Ks:Jd P w K mg ?e Aj ?jL ?a4 8 (?s6 CJ))(Nf:Has P w K mg ?e ?qW [?S] 1 (Nq K)):?u9 9 N9:=by
 refine ?t1 J3;obtain⟨H0,p,L,R,nm,n,w,M,l,r,U,rfl,x,ok,nx,k⟩:=h;have sm:=x.sm;obtain⟨_,dx,fs,hp,_,_,_,_,_,l6,_⟩:=x.ob
 refine⟨_,(Af (?tH ?k Ks)
  (Af (Sa qb9 (?sK Nf ?c7) (Ak (?tH ?k Ks)))
  (Ak (Cn qb9 rfl (?sW (Bb (kW ?j) T.n_min LA (Aa ?fM ?c7))) (?vJ 1 J3.nd) (Ak (Cj (?vT Lz (?w5 ?aX ?n)) (Ak (?vK ?R (?w0 (?w5 ?aX ?n)))) Bu)))))),?_⟩
 ext N
 refine ?s2 (fun σ' H'=>?eX/\∃L R m M l r,?j9/\?qR)
 . exact⟨_,rfl,p,dx,fs,rfl,hp,?mR,H0,p,L,R,nm,n,w,M,l,r,[],_,rfl,x,ok,fun L' R' M' l' r' H' ⟨m,hu⟩ y=>?s4 ⟨rfl,L',R',m,M',l',r',hu,y⟩⟩
 refine Ig fun H1 cB=>?_;intro sq;obtain⟨L,R,m,M,l,r,hU,x⟩:=cB;clear ok hp l6;refine ?s2 (fun σ' H'=>?eX/\∃L R m M l r,?j9/\Lat.Straight n w M/\?qR)
 . refine⟨fun m σ' G=>?eX/\∃L R M l r,?j9/\?uH G,⟨m,rfl,L,R,M,l,r,hU,x⟩,?_⟩;rintro m σ G Du;refine QW ?_;intro _;obtain⟨rfl,L,R,M,l,r,hU,x⟩:=Du;ext kO
   ext hC
   refine⟨_,rfl,p,Aj,dx,fs,_,rfl,hp,?p,?c2,l1,tv,n,w,M,rfl,?k2,O9m,O9m,?oY,?oY⟩
   . ext eQ;exact ?s4 ⟨rfl,L,R,m,M,l,r,hU,hS,?qQ⟩
   . refine bA ?f1 ?_;refine⟨fun σ' G'=>?eX/\∃L R m' M l r,m'<m/\U m' M l r/\?uH G',?_,?_⟩
     . rintro σ' G' ⟨rfl,L,R,m',M,l,r,hm,hU,y⟩;exact⟨m',hm,rfl,L,R,M,l,r,hU,y⟩
     . exact⟨_,rfl,p,dx,fs,rfl,?kB,?mR,H0,p,L,R,nm,n,w,M,l,r,[],_,rfl,?qQ,nx m M l r hU hS,fun L' R' M' l' r' H' ⟨m',hm,hu⟩ y=>⟨rfl,L',R',m',M',l',r',hm,hu,y⟩⟩
 refine Ig fun H2 cB=>?_;intro sq;obtain⟨L,R,m,M,l,r,hU,hS,x⟩:=cB;ext kO
 ext hC
 obtain⟨ta,us,rfl,hq,X6,Nb⟩:=Hf hrep
 replace hq:=?oC
 have emin:?pQ=min n w:=?iC
 refine⟨_,rfl,p,Aj,dx,fs,_,rfl,hp,?p,?c2,l1,ta,us,rfl,?r hq,_,rfl,p,Aj,dx,fs,_,rfl,hp,?p,?j5,l2,_,_,rfl,_,rfl,?iC,?iC,?_⟩;refine Cs (lo:=0) (n:=?pQ) (fun i σ' G=>E4 fun o1=>σ'=?lG/\WX K Ah Aj H0 G p L R nm n w ?g7 l r (lI i M)) ?p6 ?_ ?_
 . clear hp hrep hq Nb l1 l2 l3 l4 l5 l6 l7;rintro i σ G hi ⟨o1,rfl,y⟩;rw[emin]at hi;rw[qo9];obtain⟨tv,dx,fs,hp,l1,l2,l3,l4,l5,l6,l7,hrep⟩:=y.ob
   ext hC
   obtain⟨ta,us,rfl,hq,X6,Nb⟩:=Hf (?k2);have e:=qa0 (l:=us) (i:=i) O9m;obtain⟨_,b,eb,hb⟩:=Nb i _ e;rw[eb]at e;refine⟨_,rfl,p,Aj,dx,fs,_,rfl,hp,?p,?c2,l1,_,rfl,ta,_,_,_,rfl,rfl,hq,Bl e,_,rfl,b,_,_,_,rfl,rfl,hb,?hI,rfl,_,rfl,?_⟩;ext hB
   . have h0:¬M i i=0:=?bV
     refine⟨_,rfl,p,Aj,dx,fs,_,rfl,hp,?p,?c5,l5,?s9 y.nu,_,rfl,p,Aj,dx,fs,_,rfl,hp,?p,?c2,l1,_,rfl,ta,_,_,_,rfl,rfl,hq,Bl e,_,rfl,b,_,_,_,rfl,rfl,hb,?hI,nm,_,_,rfl,rfl,y.nu,?_,?_⟩
     . have:=QN i M;exact ?gN
     . have z:=y.num (ns':=lI ?g6 M);rw[Os,?a3 h0,qb1]at z;exact⟨_,rfl,by rw[Os,?a3 h0];exact z⟩
   . have h0:M i i=0:=?bV
     exact⟨_,rfl,by rw[Os,?aV h0];exact y⟩
 . ext eO;ext l1;rw[emin]at y;exact k L R m M l r _ hU hS y
noncomputable abbrev Q3:Stmt:=top 62
theorem Km:?F [?S,?a9,"work","left_back",?eJ] ?g0 (Au Q3):=Bf
theorem DE[?I](F:Ew K ?g1 ?g1 Q3 f fd)[?H](BC:eL P w K mg ?e Aj [?Q,?S,?a9] 3 (?s6 CK))(Gz:Jd P w K mg ?e Aj ?iL ?a4 9 (?s6 N9))(Fx:Jd P w K mg ?e Aj ?hQ ?a4 5 (?s6 j5))[?eM](Ud:Has P w K mg ?e ?qG [?bE,?a9] 3 (Uz K)):By P w K mg ?e En 10 f fd ?g0 (R6 K):=by
 refine ?t1 Km;obtain⟨v,n,w,A,Fin,rfl,hv,hn,hw,hP,k⟩:=h;obtain⟨ta,us,rfl,hq,X6,_⟩:=Hf hv;obtain⟨U,Y,a1,a2,a3,a4,a5⟩:=hP.ex
 refine⟨_,(Af (Cj (?sK Ud ?dZ) ?kF Bu)
  (Af (?sN Km.nd (Ly BC hr ?j T.m_Work ?dZ))
  (Af (?tH ?q Gz)
  (Af (?tH ?q Fx)
  (Af (?vV Km.nd (?w3 ?fP ?cX))
  (Af (Av (i:=4) Km.nd (?uE Cu (Aa ?fP ?a8)))
  (?vZ (D5 (Aa (?sE Ba ?q) (Aa ?fP (Aa ?w (?s3 ?W ?fP)))))))))))),?_⟩
 ext N
 refine qw5 (t:=?hM) (fun σ' H'=>?uL none/\?h4) ?g ?_
 . refine⟨_,rfl,_,rfl,?k9,n,w,A,rfl,hv,hn,O9m,?oZ⟩;ext eQ;exact ?hN
 ext kW;refine ?s2 (fun σ' H'=>Qm fun p L R nm=>?uL ?l/\WX K Ah Aj H1 H' p L R nm n w (?c A) ?n4 ?n4 [])
 . refine⟨_,rfl,_,rfl,?_⟩;intro p dx np tF vP;have sN:?h H1 (upd (upd H1 dx ?lI) p (?M Aj dx [])):=?gL np;exact⟨H1,p,dx,?k9,n,w,A,rfl,sN,np,Ab,?x s1 hv,O9m,hw,fun L R nm H' y=>⟨rfl,?s4 ⟨p,L,R,nm,rfl,y⟩⟩⟩
 refine YX fun p L R nm H2 x=>?_;intro sq;refine ?s2 (fun σ' H'=>xV fun L R k f l r=>Ed (?uL ?l) (k<=n) (k<=w) (Y k 0 f l r) (WX K Ah Aj H1 H' p L R nm n w ?i l r (Io k f)))
 . ext eL;refine⟨_,rfl,p,fZ,FT,rfl,hpa,?pB,H1,p,L,R,nm,n,w,A,_,_,U,rfl,x,a1,a2,fun L' R' m M l r H' hU hS y=>?_⟩;obtain⟨k,f,e,k1,k2,hY⟩:=a3 m M l r hU hS;rw[e]at y;exact ?s4 ⟨L',R',k,f,l,r,rfl,k1,k2,hY,y.drop⟩
 refine yV fun L R kk f l r H3 k1 k2 hY x=>?_;intro sq;refine ?s2 (fun σ' H'=>Rs fun f l r=>B6 (?uL ?l) (Fin kk f l r) (?n3 kk kk f) (WX K Ah Aj H1 H' p L R nm n w ?i l r (Io kk f)))
 . ext eL;refine⟨_,rfl,p,fZ,FT,rfl,hpa,?pB,H1,p,L,R,nm,n,w,kk,l,r,f,Y kk,rfl,x,k1,k2,hY,a4 kk,fun d f' l' r' H' hY' hC y=>?_⟩;exact ?s4 ⟨f',l',r',rfl,a5 _ _ _ _ _ hY',hC,y⟩
 refine YY fun f l r H4 hF hC x=>?_;intro sq;ext eL;ext kT;obtain⟨dl,fl,hL,e1,e2,_⟩:=lx.ob;obtain⟨dr,fr,hR,e3,e4,_⟩:=ly.ob;obtain⟨uC,xa1,_⟩:=lx.rw;obtain⟨bs1,xb1,_⟩:=lx.bk;obtain⟨GL,xa2,_⟩:=ly.rw;obtain⟨bs2,PF,_⟩:=ly.bk;have HH:=x.same;refine⟨_,rfl,p,Aj,fZ,FT,_,rfl,hpa,?p,?cJ,wC,L,Ah,dl,fl,_,rfl,hL,?b0,?hO,e2,_,rfl,ta,us,rfl,?r ((?aF HH).seq hq),?d b1,n,n,l.2,(by rw[X6]<;>rfl),xb1.rep,O9m,O9m,fun D1 c1 H5 hc1 R1=>?_⟩;have sU:=R1.same;refine⟨_,rfl,p,Aj,fZ,FT,_,rfl,(sU _ _ hpa),?p,?eG,yE,R,Ah,dr,fr,_,rfl,(sU _ _ hR),?b0,?jI,e3,_,rfl,?d r2,w,w,r.1,rfl,(xa2.same sU).rep,O9m,O9m,fun D2 c2 H6 hc2 R2=>?_⟩;have xZ:=sU.trans ?dF;refine⟨_,rfl,p,Aj,fZ,FT,_,rfl,(xZ _ _ hpa),?p,?c5,tU,_,rfl,p,Aj,fZ,FT,_,rfl,(xZ _ _ hpa),?p,?cJ,wC,L,Ah,dl,fl,_,rfl,(xZ _ _ hL),?b0,?jI,e1,_,rfl,_,rfl,_,rfl,p,Aj,fZ,FT,_,rfl,(xZ _ _ hpa),?p,?eG,yE,R,Ah,dr,fr,_,rfl,(xZ _ _ hR),?b0,?hO,e4,?b3,?qU⟩;have ZN:?h H6 (upd H6 tp (?G [?d nm,?d r1,?d D1,?dK,?d b2])):=?z htp;have vC:=xZ.trans ZN;have lW:=(?aF HH).trans vC;have g1:∀a,?pS->?e0:=fun a e=>s1.free e;refine k tp nm r1 D1 D2 b2 kk f l r _ hF hC k1 k2 ⟨lW,?aK,?r2,(xa1.same vC).rep,(R1.later ?pO).rep hc1,(R2.later ZN).rep hc2,(PF.same vC).rep,?dI⟩;rcases ha with rfl | rfl | rfl | rfl | rfl
 . exact⟨g1 _ ?r1,_,?r2,?jV⟩
 . exact⟨g1 _ f1,_,vC _ _ xa1.2.1,by rw[qa2,xa1.1];omega⟩
 . exact⟨g1 _ (HH.free R1.free),_,?pO _ _ R1.at,by rw[qa2,hc1];omega⟩
 . exact⟨g1 _ (HH.free (sU.free R2.free)),_,ZN _ _ R2.at,by rw[qa2,hc2];omega⟩
 . exact⟨g1 _ f4,_,vC _ _ PF.2.1,by rw[qa2,PF.1];omega⟩
noncomputable abbrev Q5:Stmt:=top 66
theorem Dm:?F [?D,?i6,?iN,?jK,"k",?a9,?eH,?k0] [?D] (Au Q5):=Bf
theorem DF[?I](F:Ew K ?gJ ?gJ Q5 f fd)[?H](Qg:Has P w K mg ?e "ones" ["size"] 2 (aJ K))(Ug:Has P w K mg ?e ?g1 ?g0 10 (R6 K))[?kQ][?rS](Ub:Has P w K mg ?e ?eT ?iZ 4 (Ux K))[?eM](Lg:Has P w K mg ?e ?fO ?gR 8 (No K)):By P w K mg ?e En 11 f fd [?D] (U1 K):=by
 refine ?t1 Dm;obtain⟨a,xs,rfl,hL,hs,N4,kq⟩:=h;ext kX
 have h4:∀x∈xs,x.length<=4:=fun x hx=>by
  obtain⟨i,hi⟩:=qh8 hx;rcases (hs i x hi).cnt with e | e | e | e<;>omega
 have pl:∀k,?cW<=40:=fun k=>?hV
 refine⟨_,(Af (?w8 1 ?kC)
  (Af (?sN ?aZ (?w7 (Aa (Aq Bo hr (Aa ?k ?b1)) Ae)))
  (Af (?vV ?aZ (?w7 ?bM))
  (Af (Cn qb9 rfl (?sW (?vL 4)) (?tS ?aZ) (Af (?w8 5 (?uA (?w0 (?w6 Bo))))
  (Af (?w8 6 (?uE Ug (Aa (Aq Ke hr (Aa ?w (Aa (?w6 Lg) ?bU))) ?bU)))
  (Af (?vK ?n (?w0 (?uE Ub (Aa ?k (Aa ?W (Aa ?aW (?s3 ?q ?w)))))))
  (Af (?w8 7 (?sH (?uF ?aW) Ae))
  (Af (?sN ?aZ (Ex ?cM (?uE Cu (Aa (Bd ?aP ?aW Am ?B) ?bU)) ?m3 Gx))
  (Ak (?vV ?aZ (Ex ?cM (?uF ?aW) ?m3 Gx)))))))))
  (?vZ ?n))))),?_⟩
 ext N
 refine ?s2 (fun σ' H'=>E4 fun ?fK=>B6 (?u8 ?J none) ?cR (H D=none) ?gO)
 . ext rO
 refine Wh fun D H1 s1 nD hD=>?_;intro sq;refine ?s2 (fun σ' H'=>E4 fun(la:Addr)=>B6 (?u8 ?J ?U) (?uW H1) (la≠D) (?v3 ?hJ))
 . refine⟨_,rfl,a,0,xs,rfl,?fD,O9m,?pY⟩;ext kU;exact⟨?bR,rfl,?lY,fun la at_ H3 hal R3=>?s4 ⟨la,rfl,?dA ?dN,?lS,iJ (R3.rep hal)⟩⟩
 refine Wh fun la H2 s2 nlD hla=>?_;intro sq;refine ?s2 (fun σ' H'=>E4 fun(ga:Addr)=>B6 (σ'=[?m,?J,?U,?V,none,none,none,none]) (?uW H2) (ga≠D) (?v3 ?fV))
 . obtain⟨_,lu,ez,hlq,WN,_⟩:=Hf hla;cases ez;ext s1;exact⟨?bR,rfl,?lY,fun ga at_ H3 hal R3=>?s4 ⟨ga,rfl,?dN,?lS,iJ (R3.rep hal)⟩⟩
 refine Wh fun ga H3 s3 ngD hga=>?_;intro sq;have s13:=(?aF s2).trans s3;refine ?s2 (fun σ' H'=>uL K H a D xs 4 σ' H')
 . refine ?lZ;refine Cs (lo:=0) (n:=4) (fun k σ G'=>uL K H a D xs k σ G') ?_ ?_ ?_
   . refine⟨[],[],la,ga,?bR,?dG,?dG,_,_,_,_,rfl,s13,(?k4) _ _ hD,rfl,Kw.first xs,?o1,nlD,ngD,?x s3 hla,hga,?_,qa1 _,one_bits _ _,one_bits _ _⟩
     have e0:Co xs (?lW-1)=0:=by
      show(Ez xs (0-1)).length=0;rw[QC];rfl
     rw[e0];exact Lat.Lev.first _ _
   . rintro k σ G' hk Du
     and_intros
     obtain⟨us,ls,la,ga,z,L,G,o4,o5,o6,o7,rfl,g,Eo,YG,X7,hB,nla,nga,rla,rga,lev,hzm,bL,bG⟩:=Du;rw[show(0:Int)+?Y=?Y by omega];have Bu6:=pl ?Y;have Bt2:=pl (?bF)
     have hzw:z+?aH<=40:=by
      have:=MC (xs:=xs) (show ?Y≠?bF by omega);omega
     have UR:?sU k:=hB.1.trans YG;have ekk:?bF-1=?Y:=O9m
     have rJ:=?x g hL;refine ?s2 (fun σ' H'=>σ'=[?m,?J,?U,?V,?dW,?e1,o6,o7]/\?uW G')
     . refine⟨_,rfl,_,rfl,_,_,rfl,rfl,a,?bF,xs,rfl,rJ,O9m,?pY⟩;ext kU;exact ?s4 ⟨rfl,s2⟩
     refine Ig fun G1 g1=>?_;intro sq;have tw:=mY hs ?Y;have told:=lev.told tw;obtain⟨pv,st⟩:=lev.st;have plan:=lC st told (fun q c _ _=>PJ h4 _ q c) hzw;refine ?s2 (fun σ' H'=>LG fun(tp nm r1 D1 D2 b2:Addr) (k0:Nat) (f:?d8) (l r:?bI)=>Ed (?v9 o7) (?uW G1) (?uT f) (GP D nm r1 D1 D2 b2) (?uN EL ?Y))
     . refine⟨_,rfl,_,rfl,_,rfl,_,_,rfl,rfl,a,xs,?bF,rfl,?x (?d4 g1) hL,O9m,h4,O9m,O9m,fun T as G2 hal R2=>?_⟩;rw[ekk]at hal;have rT:Rep K G2 (?d T) (dT (?hH) (?aH) (?k6)):=R2.rep hal;refine⟨_,rfl,?fV,?d T,z,?hH,?aH,G,?k6,rfl,?x (?i7 ?dF) rga,rT,O9m,O9m,O9m,fun i j c hi hj hc=>Sk (bG i j hi hj) (ET h4 _ j c) (by unfold bookF;decide),fun T2 GL G3 WS R3=>?_⟩;refine⟨_,rfl,?d T2,z,?aH,Lat.gT (?hH) G (?k6),_,rfl,R3.rep WS,O9m,O9m,plan,fun tp nm r1 D1 D2 b2 k0 f l r G4 hF hC k1 k2 x=>?_⟩;exact ?s4 ⟨tp,nm,r1,D1,D2,b2,k0,f,l,r,rfl,(?kM ?dN).trans ?cP,x.r,x.ne (((?i7 ?dF).trans ?dN) _ _ Eo),⟨lev,hF,hC,k1,k2,bL,bG,hzm⟩⟩
     refine UP fun tp nm r1 D1 D2 b2 k0 f l r G2 g2 x xn bl=>?_;intro sq;have OY:=?gW;refine ?s2 (fun σ' H'=>E4 fun(us':?cV)=>Ed (?v9 o7) ?cR (?vU D us') (Fn D H' us' (ls++[?uN Gb ?Y])) (?uT f))
     . refine⟨_,rfl,?s9 (?nT),_,rfl,_,rfl,_,rfl,_,rfl,_,rfl,a,tp,nm,r1,D1,D2,b2,?hJ,?fV,xs,?Y,z,k0,_,L,G,f,l,r,rfl,?x (?d4 OY) hL,N4,rfl,?x OY rla,?x OY rga,x,O9m,bl.kz,bl.kw,fun i hi=>by have:=bl.fin.dg.pos i hi;omega,bl.fin.bl.1,bl.fin.bl.2,bL,bG,fun E eu G3 nE g3 hE rE=>?_⟩;have tY:=OY.trans g3;refine⟨D,_,_,rfl,rfl,?i8,?c1,?_⟩;have nED:E≠D:=fun q=>by rw[q,?nT]at nE;cases nE
       refine ?s4 ⟨us++[?d E],rfl,(?d4 tY).turn nD,Ab,?_,?_⟩
       . exact(hB.same tY).snoc (?i8) nED hE rE
       . exact(?cP g3).put xn (?i8) hB.refs
     refine ZA fun us' G3 g3 WW YK x3=>?_;intro sq;refine ?s2 (fun σ' H'=>σ'=[?m,?J,?U,?V,?dW,?e1,?T,?uC ?f4]/\G3=H')
     . refine⟨_,rfl,tp,_,_,_,rfl,rfl,?i0,rfl,nm,_,rfl,?r x3.num,?_⟩;rw[Bq];ext kY
     rintro _ _ ⟨rfl,rfl⟩;have hkw:=bl.kw;refine ?s2 (fun σ' H'=>E4 fun(la2:Addr)=>B6 (σ'=[?m,?J,rS la2,?V,?dW,?e1,?T,?uC ?f4]) (?uW G3) (la2≠D) (?v2 la2 (dT (?aH-k0) (?aH) ?lT)))
     . refine⟨_,rfl,tp,_,_,_,rfl,rfl,?i0,rfl,_,rfl,?dK,_,_,_,rfl,x3.right,O9m,O9m,fun F as G4 hal R4=>?_⟩;refine⟨_,rfl,_,rfl,F,_,rfl,.of R4.at,?jF⟩;have ec:Jc (?e5) (?c ?f4) ?i=(as.drop k0).map ?a5:=by rw[O7,qp6]
       rw[ec];have R5:=R4.drop (k:=k0) hC rfl;refine ?s4 ⟨C,rfl,R5.same,(Ap (?k8 _ _ WW) hC).symm,?_⟩;exact R5.rep (by rw[qi5,hal])
     refine Wh fun la2 G4 g4 As6 Ar6=>?_;intro sq;have x4:=x3.same g4;obtain⟨_,bu,ez,hbq,Ay0,Ae1⟩:=Hf x4.rback;cases ez;refine⟨_,rfl,tp,_,_,_,rfl,rfl,?jO,rfl,_,rfl,_,rfl,b2,bu,rfl,hbq,?jF⟩;rw[O7];have g5:=?z (o:=?o (bu.drop k0)) hC;refine⟨us',ls++[?uN Gb ?Y],la2,C,?aH-k0,(?lT),(fun i=>r.2 (k0+i)),_,_,_,_,rfl,(?oH g4).trans g5,(g4.trans g5) _ _ WW,by rw[qc0,YG];rfl,X7.snoc bl,YK.same (g4.trans g5),As6,(Ap (g4 _ _ WW) hC).symm,?_,?_,?_,?_,?_,?_⟩
     . ext eN;exact ?x g5 Ar6
     . ext eN;refine RT (us:=bu) (fun i u e=>?_) Ay0 (?aK);obtain⟨h1,b,eb,hb⟩:=Ae1 i u e;exact⟨h1,b,eb,g5.seq hb⟩
     . obtain⟨pl',lo⟩:=bl.fin.lo;have:=lev.next tw bl.fin.dg bl.fin.il bl.fin.ir lo;rw[?oL,ekk];exact this
     . ext eN;omega
     . ext eN;exact fun i c hi hc=>bl.fin.br.1 _ _ O9m hc
     . ext eN;exact fun i c hi hc=>bl.fin.br.2 _ _ O9m hc
   . rintro σ G' h;exact ?s4 h
 rintro _ H4 ⟨us,ls,la',ga',z,L,G,o4,o5,o6,o7,rfl,g,Eo,YG,X7,hB,_⟩;exact⟨_,rfl,kq D us ls H4 nD g Eo YG ⟨_,_,_,X7⟩ hB.out⟩
noncomputable abbrev K7:Stmt:=?tT 69 0
theorem Oe:?F [?Q,?bE,"bases"] ?hT (Au K7):=Bf
theorem Xn[?I](F:Ew K ?bL ?qS K7 f fd)[?H](Uh:Has P w K mg ?e ?gJ [?D] 11 (U1 K))(Uc:Has P w K mg ?e ?q1 [?D,"bases"] 3 (Uy K))(Ue:Has P w K mg ?e ?hA ?eE 6 (Rv K))(Hv:Has P w K mg ?e ?lR ?q8 1 (Jw K)):By P w K mg ?e En 12 f fd ?hT ?qB:=by
 refine ?t1 Oe;obtain⟨p,dx,a,us,H0,xs,rfl,hp,ha,r,s0,n0a,n0p,hs,N4,k⟩:=h;have hL:LT K H ?fG xs:=⟨a,us,rfl,.of ha,?bN s0 r⟩
 have nap:a≠p:=fun z=>by rw[z,hp]at ha;cases ha
 refine⟨_,(Af (Cj (?sK Ue ?a8) ?kF Bu)
  (Af (?sS (?uQ ?a8))
  (Af (?sN Oe.nd (?uE Uh ?c7))
  (Af (Eg (K:=K) ?k (B5 (N':=?q8) (cap:=?j2) ?j ?aU (?sE Ca ?q) (?s5 (?vJ 0 vU)) ?bP (?s5 (?uE Hv ?cX))))
  (Ak (?sS (?uE Uc (Aa ?R ?bM)))))))),?_⟩
 ext N
 refine ?s2 (fun σ' H'=>?vC none/\?h4)
 . refine⟨_,rfl,?d a,xs,rfl,hL,hs,N4,?oZ⟩;exact Nv ?b4 (?hN)
 ext kW;refine ?s2 (fun σ' H'=>E4 fun ?oQ=>Kh (?vC none) (?bT p H H') (H' P=?d5) (P≠p) (P≠a) (H' p=?c (?M Aw dx [?jZ])))
 . refine⟨_,rfl,a,us,rfl,?r (?sF s1 ha),fun P hP=>?_⟩;have s2:=?aF (?z (o:=?o us) hP);have nPp:P≠p:=(Ap (?kB) hP).symm;refine⟨_,rfl,p,Aw,dx,[],rfl,?vE hp,?aS,?k3,?c9,?_⟩;exact ?s4 ⟨P,rfl,?e4 (?f6 s2),by rw[Al nPp];exact Ab,nPp,(Ap (s1 _ _ ha) hP).symm,?jG⟩
 refine zA fun P H2 ZJ hP2 nPp nPa hp2=>?_;intro sq;have VC:=ZJ.same s0 n0p;have ha2:=ZJ _ _ nap ha;refine ?s2 (fun σ' H'=>Rs fun ?fK (bu:?cV) ?o0=>Nm (?vC ?J) (?uW H2) (?vU D bu) (D≠p) (Nl H' bu ls) (ls.length=4) (∃z L G,Kw xs 4 ls z L G))
 . refine⟨_,rfl,p,Aw,dx,_,_,rfl,hp2,?aS,?k3,rfl,P,xs,rfl,(?t8 hP2 VC),hs,N4,fun D bu ls H3 nD s3 hD wO X7 hB=>?_⟩;exact ?s4 ⟨D,bu,ls,rfl,s3,hD,(Ap hp2 nD).symm,hB,wO,X7⟩
 refine yY fun D bu ls H3 s3 hD nDp hB wO Ac9=>?_;intro sq;have X7:=let ⟨_,_,_,t⟩:=Ac9;Kw.lev t
 have hp3:=s3 _ _ hp2;have ha3:=s3 _ _ ha2;have h0:=hB.1;refine ?s2 (fun σ' H'=>Jp fun(Lv:Addr) (ws:?cV)=>BZ (?vC ?J) (?bT p H3 H') (?vU Lv ws) (Lv≠p) (Lv≠a) (Nl H' ws (ls.map V9)) ((∀v∈ws,v≠?d a)) (H' p=?c (?M Aw dx ?iP)))
 . refine⟨_,rfl,D,rfl,⟨_,.of hD⟩,fun Lv oY=>?_⟩;have nLp:Lv≠p:=(Ap hp3 oY).symm;have nLa:Lv≠a:=(Ap ha3 oY).symm
   let A36:?bH:=fun i ws τ G=>Ed (?h H3 G) (G Lv=?uM ws) (Fn Lv G ws ((ls.take i).map V9)) ((∀v∈ws,v≠?d a)) (?t5 [o])
   refine Cr (K:=K) (a:=D) (xs:=bu) A36
    ⟨?z oY,Ab,?o1,(fun v hv=>by cases hv),?i,rfl⟩ (fun i ws τ G _ hz=>by obtain⟨g,_⟩:=hz;exact ?sF g hD) ?_ ?_
   . rintro i v ws τ G hv Du;revert τ;refine nA ?_;intro g rJ hW hna o Fc;have hi:=?hZ;obtain⟨ps,hps⟩:∃ps,ls[i]?=?c ps:=⟨_,qa0 O9m⟩
     obtain⟨pa,pu,rfl,hpa,rP⟩:=hB.2 i v ps hv hps;have hpl:=(X7 i ps hps).len N4
     have wl:ws.length<=i:=by
      have:=hW.1;rw[qa2,qc4]at this;omega
     refine⟨_,rfl,pa,pu,ps,rfl,g _ _ hpa,rP.same g,O9m,fun E eu G2 nE g2 hE rE=>?_⟩;have nEL:E≠Lv:=(Ap rJ nE).symm;refine⟨?p0,?c1,(?d4 g2).turn oY,Ab,?_,fun v hv=>?_,_,rfl⟩
     . rw[qg0,hps,qb1];exact(hW.same g2).snoc (?p0) nEL hE rE
     . rcases qn9.mp hv with hv | hv
       . exact hna v hv
       . rw[qq5]at hv;subst hv
         exact fun z=>by
          cases z;rw[g _ _ ha3]at nE;cases nE
   . rintro ws τ G ⟨g,rJ,hW,hna,_⟩;rw[h0,qd9]at hW;refine(?tI ?kA ?qE);refine ?s4 ⟨Lv,ws,rfl,?e4 (?f6 g),by rw[Al nLp];exact rJ,nLp,nLa,?m5,hna,?jG⟩;obtain⟨E,eu,rfl,_,hE,rE⟩:=?n5;refine⟨E,eu,rfl,?_,Bz.kd (fun c o e ho=>?_) rE⟩
     . rw[Al ?h6]
       . exact hE
       . rw[z,?kA]at hE;cases hE
     . rw[Al ?h6]
       . exact e
       . rw[z,?kA]at e;cases e;ext kV
 refine YZ fun Lv ws H4 sS oY nLp nLa hW hna Pl=>?_;intro sq;have sV:=sS.same (VC.trans s3) n0p;have hP4:=sS _ _ nPp (s3 _ _ hP2);have CA:=sS _ _ nDp hD;have ha4:=sS _ _ nap ha3;have kd4:∀c o,H3 c=?aT->(∀C d f,o≠?M C d f)->H4 c=?aT:=fun c o e h=>sS _ _ (fun z=>by rw[z,hp3]at e;cases e;exact h _ _ _ rfl) e
 have hB4:Nl H4 bu ls:=⟨h0,fun i v ps e1 e2=>by
  obtain⟨E,eu,rfl,hE,rE⟩:=hB.2 i v ps e1 e2;exact⟨E,eu,rfl,kd4 _ _ hE fun _ _ _ z=>(by cases z),Bz.kd (fun c o e ho=>kd4 c o e fun _ _ _ z=>by rcases ho with⟨_,q⟩|⟨_,q⟩<;>rw[q]at z<;>cases z) rE⟩⟩
 refine⟨_,rfl,p,Aw,dx,_,_,rfl,Pl,?aS,?k3,rfl,_,rfl,P,D,xs,bu,ls,rfl,(?t8 hP4 sV),N4,CA,hB4,fun ps hps=>?_,fun Lf wu H5 nLf s5 hLf dd=>?_⟩
 . obtain⟨i,hi⟩:=qh8 hps;exact(X7 i ps hi).ok N4
 have nfp:Lf≠p:=(Ap Pl nLf).symm;have nfa:Lf≠a:=(Ap ha4 nLf).symm;have DQ:=s5 _ _ Pl;refine(?tI DQ T.na_Book_lifts);have hp6:upd H5 p (?tX Lf) p=?c (?M Aw dx [?jZ,?pC,(?f2,?d Lf)]):=?jG
 have CF:?bT p H5 (?mQ):=?gX;generalize ?mQ=H6 at hp6 CF;have ha6:=?u1 nap ha4;have s06:=CF.same (sV.trans s5) n0p;have sB:=NJ s06 n0a
 have kd6:∀c o,H5 c=?aT->((∃l,o=?G l)\/∃l,o=.dK l)->kD H6 a c=?aT:=fun c o e ho=>by
  have ncp:c≠p:=fun z=>by rw[z,DQ]at e;cases e;ext kV
  have e6:=CF c o ncp e;rw[Kt ?h6]
  . exact e6
  . rw[z,ha6]at e6;cases e6;ext kV
 refine k (kD H6 a) ls H6 (((ZJ.trans (?f6 s3)).trans sS).trans ((?f6 s5).trans CF)) ⟨⟨dx,P,Lv,Lf,ws,wu,?_,(?t8 ?_ sB),?_,?m5,?_,dd.1,fun i v e=>?_⟩,hs,N4,wO,X7,Ac9⟩ sB KC ID
 . rw[Kt nap.symm];exact hp6
 . rw[Kt nPa];exact ?u1 nPp hP4
 . rw[Kt nLa];exact ?u1 nLp oY
 . obtain⟨E,eu,rfl,hE,rE⟩:=?n5;have hE5:=s5 _ _ hE;have nEp:E≠p:=fun z=>by rw[z,DQ]at hE5;cases hE5
   have nEa:E≠a:=fun z=>hna _ (qc6 e1) (by rw[z]);exact⟨E,eu,rfl,by rw[Kt nEa];exact CF _ _ nEp hE5,Bz.kd kd6 (rE.same s5)⟩
 . rw[Kt nfa];exact CF _ _ nfp hLf
 . obtain⟨c,e1,_,e2⟩:=dd.2 i v e;exact⟨c,e1,rfl,kd6 _ _ e2 (?L ?aA)⟩
noncomputable abbrev R9:Stmt:=top 81
theorem Ob:?F [?cN,?mY,"_law_copy","_law_book","_law_turn",?q5,"_law_told","_law_pieces"] ?fA (Au R9):=Bf
theorem vN[?I](F:Ew K ?c4 ?c4 R9 f fd)[?H](Oz:Has P w K mg ?e ?n1 ["_law_kind","_law_cells","_law_most"] 3 (Qa K))(bD:eL P w K mg ?e Aw ?hT 12 ?qB)(Rg:Has P w K mg ?e ?qD [?cN,"_law_k"] 1 (Ry K))(Nd:Jd P w K mg ?e Aw ?jD ?bK 4 ?lH)(Ld:Jd P w K mg ?e Aw ?kE ?bK 4 ?mW)(Nc:Jd P w K mg ?e Aw ?D ?a4 1 (j6 K Aw))(Yd:Has P w K mg ?e ?n7 [?q5] 1 (Ws K))(BF:Has P w K mg ?e ?nL [?mY] 1 (HB K)):?tL P f:=by
 refine ?t1 Ob;obtain⟨a,ns,rfl,hS,hl,Be3,kq⟩:=h;have dQ:=hr.u8
 refine⟨_,(Af (?t2 1 (?uE Oz (Aa (Aq Rg hr (Aa ?k ?b1)) (Aa (Ex ?cM ?k (Fj Am) (Fj Am)) ?b1))))
  (Af (?sN ?cA (?uQ ?a8))
  (Af (?t2 3 (Ly bD hr ?j T.m_Book ?bM))
  (Af (?sX ?q)
  (Af (Cn qb9 rfl (Cm ?j ?aR ?b1) (?tS ?cA) (Af (?t2 5 (Df ?w ?aS Nd hr ?b1))
  (Af (?vO (?sK Yd ?bU) (Bh Lz ?cU (?uE BF ?a8) ?a0))
  (Af (?t2 6 (Df ?w ?aS Ld hr ?b1))
  (Af (?vO (?uI ?aW) (Bh (?sE iA dQ) ?aW ?kC ?a0))
  (Af (?vK ?aW ?b1)
  (Af (?t2 7 (Js ?w ?aS Nc hr))
  (Af (?vO (?uI ?dS) (Bh (?sE iA dQ) ?dS ?n ?a0))
  (Ak (?sX ?dS))))))))))
  ?dQ))))),?_⟩
 ext N
 refine ?s2 (fun σ' H'=>Rs fun(p:Addr) ?hR (xs:Ar)=>Kh (?u8 ?l none) ?cR (H' p=?d5) (Reps K H' us ?g9) (C9 xs) (xs.length<=40))
 . refine⟨_,rfl,a,ns,0,rfl,hS,?t,hl,_,rfl,_,rfl,_,rfl,a,_,rfl,hS,?jF⟩;have sC:?h H (upd H C (?o (Jc (ns.map ?aD) (?cO) (?c 51)))):=?z hC;have hcl:=oA ns (?cO) (?c 51);refine⟨C,OA ns (?cO) (?c 51),_,40,rfl,?_,O9m,?t,?t,fun p us H1 xs hp1 s1 Aw4 r1 hsh hzl=>?_⟩
   . rw[←NZ];exact ?aK
   . exact ?s4 ⟨p,us,xs,rfl,sC.trans s1,Aw4,r1,hsh,O9m⟩
 refine LN fun p us xs H1 s1 hp r hsh N4=>?_;intro sq;have UR:?lJ:=?qN
 refine ?s2 (fun σ' H'=>E4 fun(c:Addr)=>Ef (?u8 ?l ?aO) (H1 c=none) (H'=?jP))
 . exact⟨_,rfl,p,us,rfl,?r (.of hp),fun c hc=>?s4 ⟨c,rfl,hc,rfl⟩⟩
 rintro _ _ ⟨c,rfl,hc,rfl⟩;have s2:?h H1 (?jP):=?z hc;have hc2:upd H1 c (?o us) c=?d5:=Ab;generalize ?jP=H2 at s2 hc2;refine ?s2 (fun σ' H'=>Rs fun(q:Addr) (B:Hp) ?o0=>Kh (?uU q) (Zh K Aw B q xs ls) (?h H1 B) ?eS (B c=none) (H' c=?d5))
 . refine ?dL;intro q dx nq tF vP;have s7:?h H2 (upd (upd H2 dx (.own q)) q (?M Aw dx [])):=?gL nq;refine⟨q,dx,c,us,H1,xs,rfl,Ab,?oO,r,?dA s7,hc,s2.free nq,hsh,N4,fun B ls H8 sx bk XZ sBH nB=>?fU⟩;refine ?s4 ⟨q,B,ls,rfl,bk,XZ,sBH,nB,sx _ _ (?h6) (?oO)⟩;rw[z,nq]at hc2;cases hc2
 refine LN fun q B ls H3 bk XZ sB3 nB hc3=>?_;intro sq;refine ?s2 (fun σ' H'=>?uU q/\?h0)
 . refine⟨_,rfl,?s9 hc3,?bX,?fH⟩;have s4:?h H3 (?q7):=?dB;have hc4:=s4 _ _ hc3;have sB4:=sB3.trans s4;generalize ?q7=H4 at s4 hc4 sB4;refine⟨c,us,_,rfl,rfl,hc4,?c1,?_⟩;exact ?s4 ⟨rfl,sB4.turn nB⟩
 refine Ig fun H4 sB4=>?_;intro sq;obtain⟨ps,hps⟩:∃ps,ls[0]?=?c ps:=⟨_,qa0 (by have:=bk.n4;omega)⟩
 obtain⟨dx,P,Lv,Lf,lu,wu,hpB,_⟩:=bk.ob;obtain⟨WA,lt2⟩:=jT bk.sh bk.tie hps;refine ?s2 (fun σ' H'=>True)
 . refine ?lZ
   let A35:?cG:=fun i σ G=>Qm fun o4 o5 o6 o7=>σ=[?m,?l,?aO,rS q,o4,o5,o6,o7]/\?h B G
   refine Cs (lo:=0) (n:=2) A35 ⟨_,_,_,_,rfl,sB4⟩ ?_ ?_
   . rintro i σ G hi Du
     and_intros
     revert σ;refine Ab5 ?_;intro o4 o5 o6 o7 sG Fc;ext rH
     . exact⟨_,rfl,q,dx,_,rfl,sG _ _ hpB,rfl,q,0,B,xs,ls,rfl,bk,sG,?t,?t,fun ps' H' e g=>by
        ext s0;exact ?s4 ⟨rfl,?iO g⟩⟩
     refine Ig fun G1 sG1=>?_;intro sq;ext rH
     . refine⟨_,rfl,?f _,?f _,rfl,rfl,_,rfl,?_⟩;ext kP;have hL:LT K G1 (?d p) xs:=⟨p,us,rfl,?sF ?lX hp,?bN ?lX r⟩
       refine⟨_,rfl,_,rfl,p,xs,rfl,hL,hsh,N4,fun G2 g2=>⟨rfl,_,rfl,?_⟩⟩;rw[WA];ext eQ;exact ?s4 ⟨rfl,sG1.trans g2⟩
     refine Ig fun G2 VB=>?_;intro sq;refine ?s2 (fun σ' H'=>E4 fun ?fK=>B6 (?uD ?J) ?eS ?gO (B D=none))
     . refine⟨_,rfl,q,dx,_,rfl,VB _ _ hpB,rfl,q,0,B,xs,ls,rfl,bk,VB,?t,?t,fun ps' D H' e nD g hD=>?_⟩;ext s0;rw[lt2]at hD;exact ?s4 ⟨D,rfl,VB.trans g,hD,VB.free nD⟩
     refine Wh fun D G3 sG3 BG nD=>?_;intro sq;refine ?s2 (fun σ' H'=>Ef (?uD ?J) ?eS ?gO)
     . refine⟨_,rfl,?d D,?eI,?e2,rfl,?L (?L (?L (?L (?bB)))),⟨D,[],rfl,.of BG,rfl⟩,_,rfl,?_⟩;ext kP;refine⟨_,rfl,?b3,?jY⟩;have sE:?h G3 (upd G3 E (?e2)):=?z hE;refine⟨?e2,?e2,⟨D,[],rfl,.of (?lA),rfl⟩,⟨E,[],rfl,?aK,rfl⟩,?t,_,rfl,?_⟩;refine ?iG;exact ?s4 ⟨rfl,sG3.trans sE,?lA⟩
     refine cC fun G4 sG4 CA=>?_;intro sq;refine ?s2 (fun σ' H'=>?uD ?J/\?h0)
     . exact⟨_,rfl,?s9 CA,D,[],_,rfl,rfl,CA,?b6 ?f1,?s4 ⟨rfl,sG4.turn nD⟩⟩
     refine Ig fun G5 sG5=>?_;intro sq;refine ?s2 (fun σ' H'=>Jp fun(F:Addr) (fu:?cV)=>Ed (?uX F) ?eS (B F=none) (?vU F fu) (Reps K B fu ?g9))
     . exact⟨_,rfl,q,dx,_,rfl,sG5 _ _ hpB,rfl,q,B,xs,ls,rfl,bk,sG5,fun F fu nF rF=>?s4 ⟨F,fu,rfl,sG5.trans (?z nF),sG5.free nF,Ab,rF⟩⟩
     refine lO fun F fu G6 sG6 nF hF6 rF=>?_;intro sq;have ful:fu.length=xs.length:=by have:=rF.length;simpa using this
     have rA:Rep K G6 (?gD) (?dH):=⟨F,fu,rfl,.of hF6,?bN sG6 rF⟩
     have rP:Rep K G6 (?d p) (?dH):=⟨p,us,rfl,?sF ?r9 hp,?bN ?r9 r⟩
     refine ?s2 (fun σ' H'=>?uX F/\G6=H')
     . have hd:=Mb xs;refine⟨_,rfl,?gD,?eI,?dH,rfl,?L (?L (?L (?L (?bB)))),rA,_,rfl,?_⟩;ext kP;refine⟨_,rfl,_,rfl,?dH,?dH,rA,rP,?_,_,rfl,?_⟩
       . show deps ?g9+1<=8;omega
       rw[Sw];refine ?iG;ext kY
     rintro _ _ ⟨rfl,rfl⟩;refine⟨_,rfl,?s9 hF6,?bX,?fH⟩;have s8:?h G6 (?qX):=?dB;have hF8:=s8 _ _ hF6;have sB8:=sG6.trans s8;generalize ?qX=G8 at s8 hF8 sB8;exact⟨F,fu,_,rfl,rfl,hF8,?c1,_,_,_,_,rfl,sB8.turn nF⟩
   . rintro σ G _;exact ?s4 trivial
 rintro _ _ _;exact kq _
universe e9
theorem Hk[?eP](h:∀a0,P [a0])[?eR](hl:?sU 1):P us:=by
 cases us with
 | nil=>ext X
 | cons a0 u0 =>
   cases u0 with
   | nil=>exact h a0
   | cons _ _=>simp at hl
theorem El[?eP](h:∀a0 a1,P [a0,a1])[?eR](hl:?sU 2):P us:=by
 cases us with
 | nil=>ext X
 | cons a0 u0 =>
   cases u0 with
   | nil=>ext X
   | cons a1 u1 =>
     cases u1 with
     | nil=>exact h a0 a1
     | cons _ _=>simp at hl
theorem G9[?eP](h:∀a0 a1 a2,P [a0,a1,a2])[?eR](hl:?sU 3):P us:=by
 cases us with
 | nil=>ext X
 | cons a0 u0 =>
   cases u0 with
   | nil=>ext X
   | cons a1 u1 =>
     cases u1 with
     | nil=>ext X
     | cons a2 u2 =>
       cases u2 with
       | nil=>exact h a0 a1 a2
       | cons _ _=>simp at hl
theorem TZ[?eP](h:∀a0 a1 a2 a3,P [a0,a1,a2,a3])[?eR](hl:?sU 4):P us:=by
 cases us with
 | nil=>ext X
 | cons a0 u0 =>
   cases u0 with
   | nil=>ext X
   | cons a1 u1 =>
     cases u1 with
     | nil=>ext X
     | cons a2 u2 =>
       cases u2 with
       | nil=>ext X
       | cons a3 u3 =>
         cases u3 with
         | nil=>exact h a0 a1 a2 a3
         | cons _ _=>simp at hl
theorem NS[?eP](h:∀a0 a1 a2 a3 a4,P [a0,a1,a2,a3,a4])[?eR](hl:?sU 5):P us:=by
 cases us with
 | nil=>ext X
 | cons a0 u0 =>
   cases u0 with
   | nil=>ext X
   | cons a1 u1 =>
     cases u1 with
     | nil=>ext X
     | cons a2 u2 =>
       cases u2 with
       | nil=>ext X
       | cons a3 u3 =>
         cases u3 with
         | nil=>ext X
         | cons a4 u4 =>
           cases u4 with
           | nil=>exact h a0 a1 a2 a3 a4
           | cons _ _=>simp at hl
set_option maxHeartbeats 4000000 in
noncomputable abbrev nS(K:W.Frag)(s:Str)(a:Addr):Prop:=?q4=?t0 ?fG
noncomputable abbrev nN9(K:W.Frag)(s:Str):Prop:=?q4=?Z
noncomputable abbrev kO(K:W.Frag)(a b:Addr)(v:Bool):Prop:=PySem.W.kitOne K ?fG (?d b)=?c v
theorem all_mk{l:PySem.W.OpenLaw}{w:World}{K:W.Frag}{h:Heap}{mg:?kK}{fa:Addr}{Ah:Addr}
 {Ad:Addr}
 {Aj:Addr}
 {Aw:Addr}
 {F0:Addr}{Xo Y4:OAddr}{Wy:Qo}{Xp X3 Yk Xe O9 Yo:Value}
 {G7:Addr}{Z0 f6:OAddr}{Zl:Qo}{Z1 Z5 Z7 Zs Qi c6:Value}
 {Ik:Addr}{aU BX:OAddr}{aK:Qo}{AU aZ bN aP S7 bS:Value}
 {XC:Addr}{zZ UC:OAddr}{ZL:Qo}{ZZ TU uA sX OE UA:Value}
 {Uw:Tok}
 {Lo:Tok}
 {P7:Tok}
 {BI:Addr}{QS:Nat}{lS:Qo}{JE jE JD jD JC:Tok}
 {Kf:Addr}{Xv:Nat}{Vm:Qo}{Tj Ti Th Tg:Tok}
 (X:K.In h) (G:?oA) (hfa:mg ?c4=?c (?d fa))
 (OH:nS K "Lines" Ah)
 (lF:nS K "Stairs" Ad)
 (SD:nS K "Work" Aj)
 (SG:nS K "Book" Aw)
 (gC:?sQ "is_whole" Qz)
 (Uk:?sQ "shared_divisor" Hq)
 (GB:?sQ "level_of" Qy)
 (Z9:?sQ "faces_agree" K0)
 (NX:?sQ "add_at" W8)
 (RQ:?sQ "times" AM)
 (Um:?sQ ?qZ Hs)
 (NW:?sQ "column" W6)
 (KN:?sQ "one_row" Tq)
 (RS:?sQ "mixed" aN)
 (BN:?sQ ?pK Mo)
 (nY:?sQ "across" W9)
 (f8:?A K ?aY ?bL=?t0 ?gU)
 (X5:?sG ?i9 ?gU)
 (Z4:?d9 F0=?c ⟨Xp,Xo,?gK (?gB ?bL ?pF (Ic Eh) (Ga Eh) (Au Eh) ?h5 X3 Yk Xe Y4 O9 Yo),Wy⟩)
 (d6:?gT K O9 ?pF=true)
 (Qe:?sG ?bJ ?gU)
 (gA:?sQ ?nV Qv)
 (Z8:?sQ ?qW Kz)
 (BQ:Px K Aw ?D "Book.shape" Mu)
 (S3:?sQ ?lR Gr)
 (kQ:?sQ ?n7 Tt)
 (dX:?sQ ?qD Oi)
 (bQ:?sQ "_law_faces_by" Mt)
 (DW:?sQ "_law_word_by" Oh)
 (NY:?sQ ?nL Xa)
 (Ul:?sQ "is_whole_below" Hr)
 (xG:?sQ "plus" EZ)
 (S4:?sQ ?qF Gu)
 (P0:?sQ "is_list_of_wholes" Ft)
 (KP:?sQ ?pJ Ts)
 (XG:?sQ "ones" FA)
 (bO:?sQ "list_times" Mp)
 (DV:?sQ ?nP Of)
 (NV:?sQ "turned" W5)
 (bY:?A K ?aY ?bW=?t0 (?d G7))
 (Qf:?sG ?i9 (?d G7))
 (AY:?d9 G7=?c ⟨Z1,Z0,?gK (?gB ?bW ?mF (Ic Ey) (Ga Ey) (Au Ey) ?h5 Z5 Z7 Zs f6 Qi c6),Zl⟩)
 (BV:?gT K Qi ?mF=true)
 (Na:?sG ?bJ (?d G7))
 (Vz:Px K Ad ?bL "Stairs.__init__" Iv)
 (Yn:?sQ "_law_words_with" J6)
 (Pz:?sQ "is_place_of_level" Fs)
 (a8:?sQ ?o9 K3)
 (GC:?sQ ?qG Q0)
 (kN:?sQ ?rA Tp)
 (gF:?sQ ?o3 Q4)
 (eG:?A K ?aY ?bC=?t0 (?d Ik))
 (Sn:?sG ?i9 (?d Ik))
 (DO:?d9 Ik=?c ⟨AU,aU,?gK (?gB ?bC ?qI (Ic Fi) (Ga Fi) (Au Fi) ?h5 aZ bN aP BX S7 bS),aK⟩)
 (EC:?gT K S7 ?qI=true)
 (Ow:?sG ?bJ (?d Ik))
 (a9:Px K Aj ?bL "Work.__init__" K4)
 (gB:?sQ ?q1 Qx)
 (BP:?sQ ?n1 Mr)
 (XH:?sQ "fits" fB)
 (KO:?sQ ?r7 Tr)
 (P3:Px K Ad ?nK "Stairs.shrink_row" Fv)
 (bP:Px K Aj ?iW ?l2 Mq)
 (GA:?sQ ?eT Qw)
 (bR:Px K Aw ?jD ?p2 Mv)
 (b8:Px K Aw ?kE ?p9 K6)
 (GD:?sQ ?f8 Q2)
 (Yl:?sQ ?fB J4)
 (b6:Px K Ad ?iF ?m1 K5)
 (Vx:Px K Ad ?iY ?o2 Ir)
 (P1:Px K Aj ?hQ ?lB Fu)
 (Li:?sQ ?fQ Ee)
 (gD:?sQ ?hA Q1)
 (Vy:Px K Ad ?jT ?lQ Iu)
 (nX:?sQ ?gA W7)
 (KL:?sQ ?fW To)
 (Ym:?sQ ?fO J5)
 (dW:Px K Aj ?jL ?p4 Og)
 (S5:Px K Aj ?iL ?mE Gv)
 (gE:?sQ ?g1 Q3)
 (GF:?sQ ?gJ Q5)
 (c5:Px K Aw ?bL ?qS K7)
 (A33:nS K ?c4 XC)
 (Au0:?d9 XC=?c ⟨ZZ,zZ,?gK (?o4),ZL⟩)
 (A27:?gT K OE ?c4=true)
 (Au6:?sG ?bJ (?d XC))
 (Zb:?A K ?c3 ?bW=?t0 (?d G7))
 (f7:?A K ?c3 ?bC=?t0 (?d Ik))
 (JX:PySem.W.readsIn K Ah (.type "type")=true)
 (jZ:PySem.W.findCls K ?aY (.type "type") ?bL=?c (.val ?gU))
 (JY:PySem.W.specialIn K ?aY "__getattribute__"=?t0 (?lM "type.__getattribute__"))
 (mU:?sG ?gM Ah)
 (NF:?sG ?bJ ?aY)
 (JS:?sG ?gM Ad)
 (jX:?sG ?bJ ?c3)
 (qU:?sG ?gM Aj)
 (RA:?sG ?bJ ?c8)
 (QU:?sG ?gM Aw)
 (rC:?sG ?bJ ?e9)
 (ME:?t9 Ah)
 (nK:?sG ?fR Ah)
 (mC:?sG ?fJ Ah)
 (LW:?v5 ?aY)
 (qw6:?sR ?aY ?kL)
 (qw7:?sR ?aY ?j3)
 (jM:?t9 Ad)
 (KD:?sG ?fR Ad)
 (JK:?sG ?fJ Ad)
 (JI:?v5 ?c3)
 (qw8:?sR ?c3 ?kL)
 (qw9:?sR ?c3 ?j3)
 (qx0:?sR ?c3 "starts")
 (qF:?t9 Aj)
 (RH:?sG ?fR Aj)
 (qB:?sG ?fJ Aj)
 (PR:?v5 ?c8)
 (qx1:?sR ?c8 ?S)
 (qx2:?sR ?c8 ?a9)
 (qx3:?sR ?c8 ?bY)
 (qx4:?sR ?c8 ?eJ)
 (qx5:?sR ?c8 ?nY)
 (QF:?t9 Aw)
 (RI:?sG ?fR Aw)
 (qC:?sG ?fJ Aw)
 (pS:?v5 ?e9)
 (qx6:?sR ?e9 ?cS)
 (qx7:?sR ?e9 ?oU)
 (qx8:?sR ?e9 ?f2)
 (SE:nS K "GAPS" BI)
 (qZ:?d9 BI=?c ⟨.type "tuple",?i,.seq #[?f 32 JE,?f 16 jE,?f 8 JD,?f 4 jD,?f 2 JC] QS,lS⟩)
 (Za:nS K "FACE_COUNTS" Kf)
 (Xy:?d9 Kf=?c ⟨.type "tuple",?i,.seq #[?f 0 Tj,?f 2 Ti,?f 3 Th,?f 4 Tg] Xv,Vm⟩)
 (bX:?vI "MOST_ROWS" (?f 40 Uw))
 (lE:?vI "LEVELS" (?f 4 Lo))
 (Y3:?vI "MOST_PIECES" (?f 40 P7))
 (aH:?tG "isinstance")
 (YS:?tG "int")
 (uP:?tG "bool")
 (PD:?tG "tuple")
 (yQ:?tG "zip")
 (YR:?tG "max")
 (yS:?tG "len")
 (YT:?tG "all")
 (pF:?tG "range")
 (UO:?tG "dict")
 (yT:?tG "any")
 (uO:?tG ?eI)
 (CB:?tG "enumerate")
 (yR:?tG "min")
 (YQ:?tG "set") :
 ∃fd:FuncData,(∀(s:Shared) (v:Value),BindsTo s fd ⟨[v],[]⟩ [(?cN,v)])/\∀base:Heap,K.In ?e->?qT->?tL ?aN fa:=by
 have e:=hfa.symm.trans (?t4 A33);cases e;have T:?nQ:=⟨?t4 OH,⟨ME,nK,mC,LW⟩,qw6,qw7,?t4 lF,⟨jM,KD,JK,JI⟩,qw8,qw9,qx0,?t4 SD,⟨qF,RH,qB,PR⟩,qx1,qx2,qx3,qx4,qx5,?t4 SG,⟨QF,RI,qC,pS⟩,qx6,qx7,qx8,⟨BI,?t4 SE,fun H=>?L ⟨_,_,_,qZ,rfl,rfl,rfl,(?tM 5),?dO ?aA (?m6)⟩⟩,⟨Kf,?t4 Za,fun H=>?L ⟨_,_,_,Xy,rfl,rfl,rfl,(?tM 4),?m6⟩⟩,⟨_,?t4 bX⟩,⟨_,?t4 lE⟩,⟨_,?t4 Y3⟩,?sM aH,?sM YS,?sM uP,?sM PD,?sM yQ,?sM YR,?sM yS,?sM YT,?sM pF,?sM UO,?sM yT,?sM uO,?sM CB,?sM yR,?sM YQ⟩
 have Ie:=bH (st:=Eh) Z4 d6 Qe;have Jo:=bH (st:=Ey) AY BV Na;have Kx:=bH (st:=Fi) DO EC Ow;have A76:=bH (st:=R9) Au0 A27 Au6;refine⟨?o4,fun s v=>.of_eq rfl,fun base _ _=>?_⟩;have uu:=@Bs ?aN w K mg ?e h X G;have uv:=@G0 ?aN w K mg ?e;have Fl:=?uG gC DA;have F9:=?uK Uk Sg;have Fk:=?uG GB CZ;have Ng:=?uK Z9 Xi;have Pm:=uu NX (?s8 JO) ?O;have fS:=?uK RQ MK;have Jb:=?uG Um Si;have BE:=?uK NW JN;have Yb:=?uK KN FG;have Hw:=?v4 RS (?s8 mL);have Ox:=?uK BN Zt;have Wd:=?uG nY jP;have Ya:XT ?aN w K mg ?e Ah ?bL ?eB 1 (?s6 Lp):=⟨_,_,⟨JX,jZ,JY,Qe⟩,?oB,Nu Ie T⟩
 have Kd:?v1 ?aN:=⟨_,_,⟨mU,f8,X5,NF⟩,?oB,Nu Ie T⟩
 have L5:=?uG gA cY;have Nf:=?uG Z8 Xh;have Nc:=uv BQ (?s8 Zy) ?P;have Hv:=?uG S3 Q9;have Yd:=?uG kQ FI;have Rg:=?uK dX aT;have Gm:=?uK bQ Zx;have Rf:=uu DW (?s8 AS) ?O;have BF:=?uG NY JP;have D6:=?vX Ul (?s7 Sh Fl);have NL:=?vX xG (?s7 QK Pm);have Bo:=?vX S4 (?s7 Ra Fk);have Gf:=?vX P0 (?s7 On Fl);have Cu:=?vX KP (?s7 FH BE);have Qg:=uu XG (?s7 qL Yb) ?P;have Oy:=uu bO (?s7 Zu Hw) ?O;have Re:=uu DV (?s7 AR Pm) ?O;have Sr:=?vX NV (?s7 jN Hw);have Lc:?tJ Ah:=(?vH bY)
 have Ja:?tJ Ad:=(?vH Zb)
 have Ua:=bE JS jX (P:=l.prog) (w:=w) (base:=base) Vz (?s7 Tx Ya) ?O;have Lh:=uu Yn (?s7 Vs Gm) ?O;have Cy:=uu Pz (fun F=>Om F T D6 Fk) ?O;have Dl:=?vX a8 (?s7 Xj D6);have Ud:=?vX GC (?s7 DB Gf);have Ke:=uu kN (?s7 fG Oy) ?O;have L6:=uu gF (?s7 dF Bo) ?O;have Jm:?tK Ah:=(?tY eG)
 have Cq:?tK Ad:=(?tY f7)
 have BC:=bE qU RA (P:=l.prog) (w:=w) (base:=base) a9 (fun F=>Xk F T Kd Qg) ?O;have Uc:=?vX gB (fun F=>cZ F T NL fS);have Oz:=uu BP (fun F=>Zw F T Lh Rf Gm) ?O;have NN:=?vX XH (fun F=>QL F T Fk Ng Cy);have Yc:=?v4 KO (fun F=>fH F T Cy Fl);have Ce:=uv P3 (?s7 Op Cq) ?O;have Jl:=uv bP (fun F=>Zv F T Jm Lc) ?O;have Ub:=uu GA (fun F=>CY F T Ke Cu Bo L6) (?sC NS (fun _ _ _ _ _=>rfl));have Nd:=uv bR (?s7 Zz Dl) ?y;have Ld:=uv b8 (?s7 Xm Dl) ?y;have Uf:=uu GD (?s7 dD Yc) ?O;have Le:=uu Yl (?s7 Vq NN) ?P;have Lb:=uv b6 (fun F=>Xl F T Ce Cq Ja) ?O;have Iz:=uv Vx (?s7 Tv Ce) ?P;have Fx:=uv P1 (?s7 Oo Jl) ?P;have Ek:=uu Li (?s7 Kj Uf) ?O;have Ue:=uu gD (fun F=>DC F T Jb Le) ?P;have I0:=uv Vy (fun F=>Tw F T L5 Cq Lb) ?y;have bF:=?vX nX (fun F=>jO F T Ek Re);have Ss:=uu KL (fun F=>FF F T Ua Kd I0 Iz) ?O;have Lg:=?vX Ym (fun F=>Vr F T Dl Bo Cu Ox bF);have Ks:=uv dW (fun F=>aS F T Ss Cu) ?P;have Gz:=uv S5 (fun F=>Rb F T Ks Nf) ?P;have Ug:=?vX gE (fun F=>DE F T BC Gz Fx Cu Ud);have Uh:=uu GF (fun F=>DF F T Qg Ug Bo Ke Ub Cu Lg) ?P;have bD:=bE QU rC (P:=l.prog) (w:=w) (base:=base) c5 (fun F=>Xn F T Uh Uc Ue Hv) ?y;exact vN A76 T Oz bD Rg Nd Ld Nc Yd BF
theorem walk{l:PySem.W.OpenLaw}{q:Program}{loose:?b9 Str}{XP:(?kK)->?pR}{YP:World->?pR}{d:DefRec}{K:Params->PySem.W.Frag}(hn:l.most=?c 63)(hdf:d.params.defaults=[])
 (hY:∀(w:World) (h:Heap),YP w h->?iV h)
 (F:∀(w:World) (mg:?kK) (fa:Addr) (h:Heap),?iV h->?oA->mg d.name=?c (?d fa) →
   ∃fd:FuncData,(∀(s:Shared) (u:Value),BindsTo s fd ⟨[u],[]⟩ [(?cN,u)])/\∀base:Heap,?iV ?e->?qT->By ?aN w (K w.params) mg ?e En 14 fa fd ?fA (V5 (K w.params))) :
 PySem.W.WalkO q loose XP YP l.row.toRowW d [] (fun f vs=>PySem.call f vs) :=
 L2.walk_ofB (n:=63) (k:=14) (x:=?cN) (CX:=fun _=>En) (sp:=fun w=>V5 (K w.params)) hn ?b4 hdf ⟨rfl,?t,?t,rfl⟩ hY F (fun _ _ a ns hl wR _ hS=>⟨a,ns,rfl,hS,hl,wR,?q9⟩) fun _ _ _ _ _ z=>z
universe Hb
end
structure PySem.W.Fast:Prop where(tw14331164431528618141 tw3731030412569230929 tw9915428253829777137 tw13898138639222224652 tw11628520382410366223 tw9417061487827532215 tw1320587780480546824 tw11104572267313821750 tw8777630918951574305 tw7458281680610303425 tw6395804562799907084 tw1617495956917052954 tw3317008460178586868 tw13804497731612621597 tw7976978045087873985 tw5760756087525720766 tw10966776096489633630 tw11553958719005482949 tw11700345813767181515 tw14650218352741867556 tw5841960815878165230 tw8003431402300002497 tw13340003077145352109 tw15044983934480671861 tw8849790080328935153 tw13407541056025791337 tw3783667853428525295 tw3628329524086342230 tw6007110714926567890 tw6499987375927621891 tw5436870207332646817 tw17553975348768752710 tw4108685378498457471 tw18425251897443562867 tw2872130888272618994 tw4156023039575495324 tw3152309078448052765 tw4695650840287359734 tw17950719999739883018 tw3075494792237964827 tw3643397757237703413 tw12821868596049738840 tw1152621399962246118 tw11886379047493899563 tw4668307517054068366 tw17228064108826677367 tw14698325449895224331 tw12722589593910209539 tw6296175949035742740 tw5087542018992260949 tw4179136694529262973 tw2247471367940004572 tw12454131119826313304 tw3350467568703649616 tw500258377965364474 tw3315213595670615264 tw16669963639994721171 tw7782142430478111576 tw3444056211116997883 tw7114846463002160690 tw9650317879499090387 tw3970350691794978518 tw3972677001393004324 tw1085194226469449771 tw13061070378995729641 tw10693155230872084627 tw13306576619119036235 tw16441465206898290323 tw13836812558315932282 tw5072713152690258571 tw13840067216714179361 tw9936009845028512362 tw16573628996983177188 tw16220524922970606211 tw7235288090301187716 tw1497015027665525588 tw16675836003935268715 tw17706336409676210573 tw6528675826591706475 tw6901969955325312258 tw15521991660592536655 tw12829252112901588618 tw9427426211979952366 tw14054565800041914112 tw15860526964858098114 tw5310224423947903149 tw14026971936559948772 tw1025563271256216109 tw17746285376513426736 tw11380707361951524228 tw17161388282008439447 tw12770810424925961536 tw17957065266581199919 tw1245923000777422656 tw16062179588300734929 tw14997240073814127596 tw8016345811781169932 tw6031388085698719049 tw14109120906816325798 tw4819625850959437543 tw1235553739218729094 tw2066097449090558524 tw9767234737419730717 tw10316024984788216745 tw13581455442992253377 tw1374139965967503578 tw15165579336209734179 tw3193335244743749633 tw559877256970428097 tw10588222739427620898 tw11718868802475614372 tw797127326165105960 tw15414963569845139106 tw9358130949463112671 tw16492914807137110825 tw8971592309899043288 tw9275804466567673807 tw6286157239886185828 tw6668923963908603539 tw13655565574270396975 tw2875591877636534311 tw13345327659938180310 tw6165124193992879309 tw3976835689427358942 tw6914694514157962922 tw8913481666785099123 tw5731714306698130835 tw14227607170908982406 tw4569097519453338362 tw14855064726424501789 tw7948298528440333840 tw8706892434437514669 tw10076561800728747104 tw6676109338519940220 tw12120669263535917661 tw8742905308685259689 tw10071650770043201645 tw1402789655471245643 tw6324778143411856358 tw6820415989390235336 tw17477589676749026558 tw9810162795876432340 tw5330565233505159243 tw6396924347705940021 tw12376437185674587577 tw193400674712972084 tw6452383785309812558 tw8688397908169399412 tw52925382629790181 tw1433912880811127187 tw7495670238008771593 tw13175081818978920558 tw10581709277541868431 tw8148611535560562465 tw13035553222753996930 tw10543695225830075360 tw15002909759102394262 tw3302173039127997305 tw7350650128054318749 tw3197132644850235376 tw9091971759870431877 tw225592022659524743 tw6412248303157593038 tw4948598823852060522 tw1285166284249925428 tw17987403662646358108 tw4054340211710348986 tw16642511336467098207 tw17940574087410966673 tw16996968169945236814 tw6154095054040727101 tw2546861066839422546 tw8823062102547937561 tw3379261907124557068 tw15663830301425287047 tw8942726423021033996 tw13928064021462145916 tw13246527990729229425 tw5311764443008049688 tw13921225736698201071 tw10356188206138127871 tw13283306649864029406 tw8726117907922445785 tw16592423309974025404 tw14528479171318420935 tw15040977600861442067 tw12820082541508347415 tw5610377397655635253 tw779590673165203475 tw17371269493583900866 tw13810525554351996406 tw17768693520068970076 tw890926738215350496 tw13854216359837970951 tw5664966906223635463 tw14015917942057927231 tw10165212651156761457 tw3230671071325277788 tw12320378875427059091 tw3539175170206461106 tw13706666111469180809 tw2275718266780255949 tw9312582523091088431 tw16416611108693213845 tw17632674552957045319 tw11843988586547535506 tw5475581506739222680 tw11848970995128910602 tw15788962993156781456 tw6129272462240637783 tw13398410165392148919 tw4546915441781596259 tw616581717865647575 tw17941062466225267932 tw12172162447685296938 tw10040514333614896921 tw10291774893029250546 tw17580119223271227052 tw10408666567483372658 tw15114814545420030643 tw15232300700173808567 tw12608086086067708484 tw1907129069043628363 tw13393488367472075273 tw3035974097919055063 tw17319384179964211999 tw10780877217180026440 tw3730074134385266824 tw1386316776757831108 tw2583442497571592951 tw15778423637924856864 tw4507899113380550071 tw4673076802340716115 tw1118215751441206574 tw13941042452353795702 tw6915551492179209401 tw14574439167336026539 tw7900690084867533605 tw7134410238870033131 tw17933769714009359450 tw13063682061931575874 tw5743690155607278319 tw3242552028994195784 tw15100963327952181308 tw12157561366403047849 tw11072855206775176919 tw11524264323710113733 tw13475602292827093431 tw17873377897943116899 tw16557926898420548970 tw15024263998351873749 tw11793779090125570753 tw6388862465230695757 tw12225867047583864119 tw4825653043322646286 tw3156898043408684143 tw17660658553412856917 tw15175541211432450009 tw10066950233109216151 tw12734930933679961731 tw2701241072636701229 tw6910385791082645298 tw17652983827603076789 tw9501355145700062082 tw8741148329215356888 tw11103346187512201230 tw11961420138249237646 tw431920994049979041 tw16522758341277488945 tw17375604415579304830 tw5818321541744941286 tw14916344241718849707 tw2960604931801024027 tw12951237416919292301 tw7780578646718803284 tw4443666332478606827 tw12953624940805702510 tw9535859239031369794 tw6891454188054849313 tw10660459591460338187 tw18301410350226379612 tw10362790582671351149 tw3059623158249430452 tw16398383942763345730 tw16187172403033894456 tw16870348315989897487 tw3309127676759344546 tw17984426143915368405 tw17585437904741367055 tw9866603079222823511 tw5043941691510173780 tw14284181612293441308 tw13285935299032898954 tw7331551252589921030 tw11385137024110894197 tw10699688947084113078 tw12732211497129396475 tw16419314238022110119 tw10930463764482157828 tw11181100520391793901 tw4849844903843044087 tw16672038364231543333 tw584463061201023645 tw3340301890027945748 tw12751479306960062023 tw3435489033975951068 tw7933362197278927367 tw12465270401660630815 tw15772404806580586168 tw16442803173957309368 tw7151660148038028012 tw9182983060721808090 tw11362742852365137734 tw6156309549131197502 tw5782821516808514574 tw1480502860807909614 tw8387920573054872270 tw1525916093652788513 tw7077100201581134937 tw6473660696939896752 tw14244478466431203033 tw7827835617925345630 tw16993326901385258699 tw15979146581131299033 tw9110005854038125155 tw4487919825046553812 tw18065353309739205046 tw15559906050657028127 tw12753639225464078994 tw7365339986133297352 tw2823839788292869500 tw7351739131948008104 tw2514669731800018826 tw17355422850968682587 tw15508225110917983154 tw13850787075683067396 tw3720417138649784155 tw12317917778276912692 tw9929535258505239060 tw10548219540612050788 tw9999107051931643144 tw15469194485372443032 tw13295241221047573228 tw10140935729858316049 tw2642931267645082236 tw8887829572533139851 tw8021135641087533630 tw8764822833635618967 tw13378983647748072406 tw5208301833745900328 tw5925596392178812195 tw10717440548713555806 tw16934852909779125669 tw17363620201814394619 tw6673396512105371537 tw11855995288515463036 tw6829103340971947601 tw4766628405269978000 tw11611966024786462356 tw12453914957933531453 tw3793274200103123920 tw17879537467298077721 tw12416299544046903882 tw4179645738530544909 tw3120799582240484690 tw12947423705042986167 tw9687892265561127867 tw4258221483538006098 tw5848017438333758115 tw6958950405755198858 tw15708732046989914369 tw322779169127820649 tw2549658633101493658 tw12107665446238645649 tw5265570082544311284 tw14280388662446325384 tw14962766825402781870 tw4453144666709874017 tw2791698724052576423 tw13299894091780802369 tw8303605651849062925 tw11498609939704970481 tw4576550649741625868 tw267108579274545026 tw3544054327159789996 tw1204602700342489191 tw13624933083467722433 tw1120291662381058089 tw14097254731884601180 tw9723989247091846256 tw7766841499193942294 tw6495378752499854134 tw16729845875061461170 tw4912015945692943121 tw16421871593101715296 tw15074470407877635403 tw11301773154099059808 tw6500503351309547204 tw10842139350511394930 tw13873953187561705348 tw15488604745407393761 tw9572009039225561920 tw11291297884477226257 tw14247492326531416893 tw11650968568597134894 tw10700954085646407233 tw9661066776385332672 tw438202706532787821 tw5988681137569946332 tw7259720368503509887 tw15924239971699991349 tw18200814307703127593 tw9869726506968153661 tw7935002068462206552 tw10033485464168366756 tw914872517344398874 tw12903169268979620733 tw12069738901682204957 tw4911435969668738085 tw2384105346192422898:True)
open PySem PySem.W PyProof.Rows
set_option maxRecDepth 100000 in
set_option maxHeartbeats 0 in
theorem PySem.Challenge.cw_holebook_k32_lots_of_points_holds : PySem.Challenge.rw_holebook_k32_lots_of_points.Holds := by
 w_on;o_law;k_head;(case hw=>w_witness2)
 k_fill
 refine Hb.walk (l:=PySem.Challenge.rw_holebook_k32_lots_of_points) rfl rfl (fun w h Y=>PySem.W.kIn_of Y) ?F
 case F =>
  intro w mg fa h KX G hmg
  refine' Hb.all_mk KX G hmg ..
  all_goals try delta Hb.nS Hb.nN9 Hb.kO
  all_goals try first | exact⟨_,_,by k_is,⟨⟨_,_,_,_,_,_,_,_,_,rfl,by k_is,by k_is⟩,by k_is⟩⟩ | exact⟨_,_,by k_is,by k_is,⟨⟨_,_,_,_,_,_,_,_,_,rfl,by k_is,by k_is⟩,by k_is⟩⟩ | k_is | kit_is | kts_isx | k_exc | k_qdec | kernel_rfl | decide +kernel
