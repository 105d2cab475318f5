import PyProof.Rows.All
import Wide.All
import OpenK.AllK
import Wide.FinOn
import Lean
import PyProof.EqAt
import PyProof.EqKinds
import PyProof.TupleCall
import PySem.Challenge.RW_holebook_k34_rounds_and_gauges
set_option linter.all false
set_option Elab.async false
set_option maxRecDepth 100000
set_option maxHeartbeats 0
noncomputable section
local macro_rules|`(tactic|omega)=>`(tactic|first|with_reducible assumption|with_reducible exact Nat.le_trans (by assumption) (Nat.le_of_ble_eq_true rfl)|with_reducible exact Nat.lt_of_lt_of_le (by assumption) (by assumption)|with_reducible exact Nat.le_of_lt (by assumption)|lia)
local macro_rules|`(command|mutual $cs* end)=>do
 unless cs[0]!.raw.isOfKind ``Lean.Parser.Command.check do Lean.Macro.throwUnsupported
 let some l:=cs[0]!.raw.find? (·.isOfKind `«term[_]»)|Lean.Macro.throwUnsupported
 let d:Char->Nat:=fun c=>if c.isDigit then c.toNat-48 else c.toNat-55
 let a:Char->Nat:=fun c=>if c.isLower then c.toNat-97 else c.toNat-39
 let e:Lean.Syntax->Nat:=fun s=>match s.getId.toString.toList with
  | [x]=>a x
  | [x,y]=>52+a x*36+d y
  | [x,y,z]=>1924+(a x*36+d y)*36+d z
  | _=>1000000
 let f:Array Lean.Syntax->Lean.Syntax->Lean.Syntax:=fun m s=>s.rewriteBottomUp fun x=>
  if x.isOfKind ``Lean.Parser.Term.syntheticHole then m.getD (e x[1]) x
  else if x.isOfKind ``Lean.Parser.Term.app&&x[0].isOfKind ``Lean.Parser.Term.explicit&&x[0][1].isOfKind ``Lean.Parser.Term.paren then
   x[0][1][1].rewriteBottomUp fun y=>if y.isOfKind ``Lean.Parser.Term.syntheticHole&&e y[1]<2 then x[1][e y[1]] else y
  else if x.isOfKind Lean.nullKind&&x.getArgs.any (fun y=>y.isOfKind ``Lean.Parser.Term.instBinder&&y[2].isOfKind ``Lean.Parser.Term.forall) then
   x.setArgs (x.getArgs.flatMap fun y=>if y.isOfKind ``Lean.Parser.Term.instBinder&&y[2].isOfKind ``Lean.Parser.Term.forall then y[2][1].getArgs else #[y])
  else if x.isOfKind ``Lean.Elab.Tactic.Ext.ext then
   match x.find? (·.isIdent) with
   | some i=>match m[e i]? with
    | some t=>Lean.mkNode ``Lean.Parser.Tactic.paren #[Lean.mkAtom "(",t[1],Lean.mkAtom ")"]
    | none=>x
   | none=>x
  else x
 let mut m:=l[1].getSepArgs.map fun x=>if x.isOfKind ``Lean.Parser.Term.inaccessible then x[1] else x
 for _ in [0:((cs[0]!.raw.find? (·.isOfKind `num)).get!.isNatLit?).get!] do m:=m.map (f m)
 return Lean.mkNullNode ((cs.extract 1 cs.size).map fun c=>
  if c.raw.isOfKind ``Lean.Parser.Command.universe then
   let i:=c.raw[1][0]
   Lean.mkNode ``Lean.Parser.Command.end #[Lean.mkAtom "end",Lean.mkNullNode (if i.getId==`e9 then #[] else #[i,Lean.mkNullNode])]
  else f m c.raw)
mutual
#check(4,[?a,?b,some,wpAny,∀(I:?p),a,X.env,(model ?W X.w),X.xe,.int,.inl,.ref,∀(K:W.Frag),a,List,(Co I q ?P),s.heap,?wF H s,?m V,?c u,.(by obtain⟨t',rfl⟩:=ry),∀{A:Around},a,?m ?L,?c o,.non,H b=none,.inr,St->?aE,if_neg,outer,absurd,?m Addr,∀(Ac:Bj) (s:Shared) (σ:St) (H:Hp),a,decide,Vals,.nil,?m Str,.(by intro Ac s σ H Q I h),.cons,Value,∀{us:?u},a,∀{pos:Pos},a,∀{u:Value},a,(?a6),∀{E:?bX},a,name,(?hR),(?k f),(?hA),eval,X.prog,k _ _ ?fO e,(model prog w),.BoolOp,∀(X:Cx)(Ac:Bj),a,∀{K:W.Frag},a,compareOp,?dU a,.Call,?c v,.(by simp),s.heap.objs.size,⟨_,rfl⟩,(e::es),RelV,2 ^ 62,kindOf,base,?yI Hp,.(by exact ?t0),.(by obtain⟨x,H1,I1,r1,q1⟩:=_z),∀{Ac:Bj}{σ:St}{H:Hp}{s:Shared},a,∀{P:Program}{w:World},a,∀(s':Shared),a,.(by exact qb2 e),∀(a:Addr),a,∀(h:Heap),a,?k a,scope,ObjOk,I.freeC,?m (Str × V),I.free,I.hok,?m1 x=?hB,(n:Int),?gA=?v,qual,.type,if_pos,?aA v u,∀{Q:?bX},a,∀(vs:?q),a,∀(s:Shared),a,∀{s:Shared},a,∀{a:Addr},a,∀{e:Expr},a,?h1 ?L,?cR b=?v,?G xs us,Option,W.findIn,I.bare,Str->?dT,?m Env,.Attribute,X.base,.str _,starEach,?yI Shared,?i i,(vs++dvs),.none,pure,I.cell,congrArg,(I.ok.hd hc),D.nx σ H,s1.heap.objs.size,?m Stmt,its.toArray,?c .local,(g i j),?L->?bJ,.builtin,(?gX),false,?aA x u,.Name,X.stack,(EP X Ac σ Q),∀(ha:?mS)(hb:?yF b tb),a,∀(P:Program)(w:World),a,∀(us:?u),a,∀{i:Nat}{x:Str},a,∀(r:?b0),a,∀(xs:?q),a,∀{xs:?q},a,(?k x),Dl K H a xs,{ s with toks:=s.toks+1 },I.ok.kind,[?aN],Bool,?bA Int,xs.length<=sizeLine,none,xs[i]?=?cS,I.base.free,Pv i σ H,?i _,I.tok _,(?wR he h),s.heap.get?,?c x,(by decide),.str x,(?k it),binaryOp,?y x,.bl _,?V e ?f,b≠X.env.locals,I.os,I.pin,s'.heap,(model P w),∀(hf:?l2\/X.env.scope.names.lookup x=?bV:=by first | exact ?k5 | exact ?y rfl | assumption),a,.(by intro X hP hw hK hc i Ac s σ H E I hf st hg;subst hP hw hK),.(by obtain⟨f0,f1,f2,f3,f4,f5⟩:=hf it ?P),∀(F:By ?W X.w X.K X.mg ?bG CX k f fd ps sp),a,.(by intro Ac s σ H D I h),.(by obtain⟨t,rfl⟩:=r),∀(R:?j4),a,∀(outer:?bE),a,∀(he:?rG),a,∀{es:?e4},a,∀(A:Around),a,?c ?cK,(1:Int),.fields,V->?jZ,t σ H Q,(?k8).any,⟨x,H1,I1,r1,q1⟩,(?bK),c=true,bindC,bindL,(?a5),Gc k A,?bA ?L,h.get?,(?wR ha h),envOfC ?aX ?aO ?a7 f cd,V->?aE,b ∉ ch,(qb2 e),fun _ _ q=>q,b ∉ ex,False.elim,.bl k,?m Expr,X.base.get? b=?v,zD K a,h'.get?,"range",fun v s1 _z=>?_,I.loc,I.kIn,?gB ?jT,items,backTo,(qn4 _),?e7 b,X.mg x,(?aN),Paired,?c .cell,scope.names.lookup,?bA V,zE K a,(x=?aN),SqL K H a xs,.(by simp at h),?xS us,Value.ref,?K r t,fun b hb=>?_,u=?eS a,(i+1),(upd H a o),holding,K.In ?o,∀(s:Shared) (Q:?bX) (E:?bX),a,∀(hb:?sC)(hd:?pX)(hx:?q0),a,∀(hd:?sL:=by decide),a,∀{Ac:Bj}{s:Shared}{σ:St}{H:Hp},a,∀(E:?bX),a,.(by obtain⟨t,rfl⟩:=rx),∀{Q:Unit->?bJ},a,∀(ha:PA X ?a9 t),a,∀(Q:?rE),a,∀(Q:VK)(x:V)(H1:Hp),a,∀(ha:PT X a tA),a,∀(x:?lP),a,∀(hg:?l0),a,(.lst xs),g x σ H' fun σ2 H2=>tb ?nJ σ2 H2,((?uQ:Nat):Int),X.env.locals,callWith,bootBuiltins x,X.calm=true,?aA y u,H' b=none,(b,o),fs.lookup,(?k5),W i m σ H,?aZ hk,w::vs,I.len,?bO x c e,?aZ hj,(hi-lo).toNat,I.ok.bs b o e,?j i,?c .free,?G xs its,(backToKw pos (keywordEach [] ?f)),{ s with heap:=h',toks:=t' },.(by simpa using hb),I.list,?m (Str × Value),qc0 _ rfl,(k,x)::r,(.tup xs),Ne.symm,(?c2 x pos),?dU b,s.heap.push,?eG=?v,?a3=?v,pos.line,s.heap.FunFrames,.(by ext i9),.bool,(ps.zip us),?c ?g7,∀b∈fp,?fL,{ s with heap:=h' },.Compare,?bN ?c0,X.N[i]?=?cS,assignEach,Sum.inl,Sum.inr,k b u q,(neC b o e hx),(by omega),b ∉ X.fs,.Constant,qa1 _,⟨H1,I1,q1⟩,.bl ?c0,I.base.keep,Array,.bl b,(x=.bl c),X.outer,fun _=>none,H a=?v,Nat->?kY,fun b o e n hb hx=>?_,uJ lo n,s.heap.objs.size+1,?c c,Pv ?eW,(?i i t),?c (?c ?T),IsTup,?A hk,2 ^ 64,?c (.own a),((p,w)::?j7),(∀σ' H',?m3->∃m',m'<m/\W ?eW m' σ' H'),behindInMarks op b=false,Q v H',I.ok.above,fs.map,(start N vs),assign,?k C,PySem.W.instObj,MR ?c3,?A hj,AllBare,?c (?j9),∀(he:?iR:=by rfl),a,∀(hN:X.N.Nodup)(hi:?gO)(hx:?uO),a,.(by obtain⟨o',e1⟩:=I.base.there b o e hx),∀(hdb:?sL:=by decide),a,∀(k:∀b u,?k7),a,.(by intro Ac s σ H x y v u Q I rx ry h),∀{kindOf:Str->?bA NameKind}{x:Str},a,.(by have e:b=it:=?g2),∀(mg:?bD)(base:Heap),a,∀(hn:x≠"__name__":=by decide),a,∀(H':Hp) (i:?rB),a,∀{f:?pY},a,.(by rw[Aj (Ao q hn)];exact q),∀(sp:Sp)(dvs:?q)(E:XK),a,∀{kw:?g4},a,∀(x:V)(y:V)(H:Hp)(Q:VK),a,∀(hc:?fJ),a,∀(g:Int->?jM),a,∀{b:Addr}{o:Obj},a,∀(ha:?mS),a,∀(r:?lE),a,∀(hr:Gc k X.A),a,?V b ?f,(hs.2 b (qc7 (qb3 ?dZ (I.ok.cab x c hfn hc)))).trans,De K C f,Un.kept,.(by simpa using h1),k b ob q,?aA x v,PA X es t,?mY=?rH::?pS,∀b∈fp,Qs X Ac H b,PySem.W.plainGet,I.base,I.ok.mod.kin,?hS C ?a7,?i (lo+i),I.kept,fun u s1 _z=>?_,h.Ns1 dx mA,?eS ?U::us,I7.unpinned,(f,first),It->?aE,[?bK,?i j],Sem ?cH,P.zip vs,Heap.SameBut,.ins C dx fs,((0:Nat):Int),(k:Int),qa2.mp,W.isFn K ?T=true,H b=?r,(?gB ?kH).objs.size,A.deeper,sp vs H Q E,qb9.mp,PySem.W.methodObj,putF f y fs,u.keep,Int->V,CB ?aT e,k b o (fun z=>hc (by simp[z])) e,standAt,PySem.Within,fun h' eb=>⟨rfl,?xT (fun b o hb e=>eb b o hb e)⟩,getAttr,PySem.W.emptyDict,r.inj r',fun b o e=>qa5 _ e,?x5 ?eK,I.tuple,swapsWith,Hp->?yI VK,?m (?eM),X.pn++Ac,?jX hq,?q->?jZ,.UnaryOp,?j rfl,H1 a=?hW,?gA=?r->?eG=?r,?eE pos (?pS),?q->?aE,?eH=none,(f v u),p.isList,W.keepIn,getMethod,(x=?bK),if v<0 then(v+?aV).toNat else min v.toNat n,{ cls:=?aY ?e8,data:=?dI #[?i lo t,?i hi u,?i 1 v] },Q () s',H a=none,qb4 hQ,Int->?yI Int,vs[i]?=?a5,?fN m=none,ws.toArray,its.toList,X.s₀.heap.get? b=?v,.Assign,I.turned,?gP es ?f,.(nomatch e),I.step,Cls X.K C,∀b xs,H b=?gJ->H' b=?gJ,Nat->?z,∀f,M5 (?fN f) (mA f),Gl X x,?e2 hq,X.fn x=true,IP P w K mg ?aD A ?B s H,?K _ t,IsPart,?aP P w H h a o,dx≠x,fun p hp=>?_,?e2 hq',?eY [ov] (?kE ov m pl),?jP apos.atName,tn i ?o,wpAny_Name,?G vs us,I.hok.fresh,⟨v,H,I,r,h⟩,tb σ H1 Q,vs.toArray,(i==j),i<=xs.length,Builtin.Slice.slicePlaces,?aY "tuple",fun b hb=>(hf b hb).1,?V a ?f,Q7 P w H h,(hs.2 b (qc7 (qb3 ?dZ ?hN))).trans,putF f v fs,?L->Sem ?L,?V e env,a<h.objs.size,?c (?sT),pyIter,codeAny,?V o ?f,fun _ _=>False,mA ?R,X.env.cells.lookup,h.objs.size<=a,N σ' H',∀(hch:∀b∈ch,(b∈X.ex\/?wI b)/\?d0/\?q3),a,.(by rw[show putF f v (?g6)=(if k=f then(k,v)::r else(k,x)::?qX) from rfl];by_cases hk:k=f),∀{g:TG}{tb:TS}{D:Ends}{σ:St}{H:Hp}(Pv:?kY)(h0:Pv 0 σ H),a,.(by obtain⟨σ',H',I,q⟩:=h;exact⟨σ',H',?mV,q⟩),.(by subst e;exact I1.fpOk ?bZ (I1.hok.fresh ?bZ)),.(by obtain⟨sl,e1⟩:=?xK ?s1 hx),∀{K:W.Frag}{mg:?bD}{base:Heap},a,∀(e:H a=?hW)(c:?kW),a,.(by obtain⟨e,n,ne,nf,d⟩:=?qV),.(by exact ?wH hb Q),.(by obtain⟨od,J,hl⟩:=I.look),∀(σ:St)(H:Hp)(Q:?z),a,∀(ho:OpR X (?a2 op) r),a,∀(hok:Q7 ?W X.w H' h'),a,∀(prog:Program)(w:World),a,∀{prog:Program}{w:World},a,∀{mA:?bD},a,∀(i j:Int) (t u:Tok),a,fun x H' y=>?_,qc5 _ hb,X.prog=P,I.ok.exfs,isTrue e ?f whole,lo+?jA*1,?yF a ta,(?c0,?iJ),VS K f D σ y x H2,I.unwish,PS X (?kR [?qU] e pos) (rC te (AS i)),∃u,?e7 e=?r,?bI ?a9 ?f,⟨us,[]⟩,I.ok.bsz,Bl (X.wish E) Ac σ H s,?yF o ta,((?tI:Nat):Int),h.objs.size,HP X Ac σ Q s',z.sameBut hs (cne y c e),(?gQ a:Key),op≠.In,⟨_,ho2,rfl⟩,ItB Q x H1,?yF ?g9 (tC v),slicePart_none,I.stkSub,I.pins_of,fun w hw=>h w (qc5 _ hw),K.lookup,∀y∈sc.names,y.2≠.free,∀name,?nK=?c (?m0),{ D with nx:=N,ct:=N,bk:=D.nx },PySem.W.lookIn ?R od,jY r' tc σ Q y z H3,?V (?wP e args) ?f,(?y8 ?bW),IsRangeIter,qE Q x H',(0:Int)<j,fun v hv=>(qh6.mp nd).1 (qp5 hv).1,IrU g x H Q,h.ok ?aT,?hV s.gens,o.dict=none,Paired.mapP,(qr0 _ _),fun h' tk k=>⟨_,H,?iY k,?_,q⟩,List.range,sc.isCoroutine=false,.bl (!c),es.toList.any,sc.names,fun m=>xs[i+m]?,(qb4 ?_),.(by rintro rfl;exact h v qe2),PySem.W.handedIn,fs.length<=1000,fun(m:Nat)=>xs[?tX]?,PySem.W.takerIn,hb wh Ac s1 σ H1 Q I1 q1,{ s with heap:=h',toks:=tk },I1.laid (t':=s1.toks) (fun b u e=>qa5 _ e) ?bZ ?_,hd σ H p,s.heap.objs.size<=a,(n,v)::r,?jG (?dW),s'.os=s.os,qM K R x H1,Calls.Name_function_global,Ap3 g x y H Q,IrI C g x y H Q,.function,iN ?o x dx C mA,qF Q x H1,∃o',?eG=?c o',Int->Int,⟨ok.mod,ok.kind,ok.glob,ok.blt,ok.above,ok.inj,ok.has,ok.cab,ok.hd,ok.frames,ok.stk,ok.exf,ok.bs,ok.bsz,ok.noex,ok.exfs,ok.funs,ok.frf⟩,.(by subst z;rw[r]at mu;exact mu),fun z=>(hch c z).2.2.1 x c e rfl,?wF H ?g1,(mixKind prog w).is,⟨z,H3,I3,r3,k,e,q3⟩,?wF H ?gL,Gc (k+1) A,xs.length,∃t,u=Value.str x t,Int->?oR,Nat->?aE,∃t,u=Value.bytes b t,Df ?dV ?e9,I1.kept (t':=s1.toks) ?jV,op≠.NotIn,∀b∈fp,?s9,(g==k)=false,A.depth+1,QC X.K C m g,?cR b=?r->?eG=?r,?y3 b,i<vs.length,e=x\/H e=?c (.own x),?m Key × Addr × Value,Mod X.K X.mg ?bG,qL R vs H1,.(by simpa using hs),⟨rfl,rfl⟩,.(by rw[Aj (hm b _ q fun z=>z)];exact q),fun σ2 H2=>tb { D with nx:=?hC,ct:=?hC,bk:=D.nx } σ2 H2,⟨y,H2,I2,r2,q2⟩,Nat->?qN,D.nx σ H1,X.env.scope,?m Key × V,?bI es ?f,k b u (hb b n) q,Addr × Obj,I7.pin ?fM (qf9 _ (qf9 _ (Nt hb e))),De X.K C f,?G dvs ds,?L->?lS,o.cls=?lM,Si CX X E,X.s₀.heap.FunFrames,⟨σ,H,I,h⟩,(?pD)/\∀p∈?k1,p.1≠b,(?c0,?lO),(?eC).push (?iW),vY K R x H1,.ins C ?a7 [],?wB cd,V.ref ?U,?wF H' s2,{ s with heap:=?q5 },?xE ?R,W m σ H,∀x∈P,?sE,?h1 UInt8,u=Value.none,fun x c e=>?_,(vs++ws).toArray,J.go i H,PS X st t,QF C m sp dvs E t σ Q x H1,?F (x=y),?yI Heap,σ[i]?=?c ?dR,Builtin.Slice.sliceAdjust lo hi 1 ?aV,U3 f y fs,(a==sysModules)=false,(?xQ ?bW),vS tb σ Q x H1,?c2 x pos',?d2 p hp,(us++ds).length=ps.length,putF f v r,PySem.W.plainOver K C=true,s.heap.Ns ?fG m,noFill_tuple_add,ItFld K f Q x H1,cellsFrom,scal x y=true,(?gR a:Key),Gc (k+1) X.A,fun j y v' e1 e2 e3=>?_,(ql2.mp hp).elim,fun r s4 _z=>?_,fun b o e=>(e0.bs b o e).1,∀vs H Q E,?jH->?sO,?wF H' s',j<1073741824,(show False from r).elim,?cH->?aE,∀b o u,H b=?lV->H' b=?lV,?yF e te,(?c0,?cZ),?wG M (storeName ?f x u),∀b ps,H b=?c (.tbl ps)->∃more,H' b=?c (.tbl (ps++more)),SqL X.K H a xs,I.base.tbls,?fN f=?a5,?bP ?c e,fs.length<1000,fun i h h' st k=>st.at fun o e=>k it ?P o e,?aY "list",PySem.W.cellsFrom_some,b ∉ X.ex,?y5 (f ?hD (?i j u)),fun b z=>?C z (noA b),CE ?B P w H s Q u s',fun b o e hx=>?_,[op,op'],k a _ ?fO e,sc.kind=?oN,?nG a=?v,I.base.slot,P[i]?=?cS,t D σ H,?yD (tCB r t),Q (?i ?bW s.toks) ?cE->?rT,PG X tg g,rv.get hx,H1 p=none,Qs X Ac H' b,?bF o f pos',e0.hok.fresh,M8 X.K fd ps ds,(Q ?bW H),?x5 ?bV\/?jW,fun c H1=>Q (!c) H1,Mut (H x),⟨_,ho,rfl⟩,(g==k)=true,PG X ?g9 (AS i),EP X Ac σ Q u s',(x==("__debug__":Str))=false,A.handled=none,concat_meets,vs.length=ps.length,(?bY id),xs.length<=i,VY K n t v σ H Q,Mk X.K C f,.frz o u,qO t u vs σ H Q,?b8/\?x,∃t,u=Value.float b t,(?k ?a7),∃o,?gD,R x y H2,?C (show false=true from hs) qd3,{ s with heap:=?gB ?kH,toks:=tk },wpAny_isTrue_Compare1,Vis ?pQ x,seq_tuple_add,∃sl,?eG=?c { o with slots:=sl },(?dW).kindOf,FnScope N ps ?aO,i=xs.length,?r4=?gR b,Bl X Ac σ' H' s',(?lR).map,PySem.W.makesIn K C=true,?eB a o hk,X.H₀ b=none,Dl X.K H a xs,PT X c tc,VR i σ H Q,sIx n n hi,⟨?h8,?h8,?cM,?rW,?uJ,?tS,?rL⟩,H dx=?hI,QG tb σ Q x H1,.(by simpa using I.len),⟨_,?g5,rfl,rfl,_,rfl⟩,κ × Value,[s1.heap.objs.size],.bl true,.(by have:=r.dp;omega),I.base.frzs,.(by simp[putF]),.(by have:=r.un;omega),u σ H1 Q,?r2 ?U scope.names [],((i:Int)+(m:Int)*1).toNat,∃t,u=Value.int i t,UnaryOp_,PySem.W.hasDictIn K C=true,"type.__call__",sc.isGenerator=false,∀v,o.data≠.cell v,Int->?cH,?nV/\o.data=.seq its n/\its.size<=sizeLine/\?G xs ?kP,Bl X Ac (σ.set i ?dR) H s',?hV s'.gens,b∈X.fs,(sb.2 b hb).trans,Bl X Ac σ H' { s with heap:=h',gens:=g',drawn:=d',toks:=t' },?y5 (?V ?g9 ?f),I.ok.frf,qo3 (pl:=pl) (Df ?cQ ?iZ) ht,fun h' st' sb=>?_,?n7=?gQ b,jX X body tb,QL R vs H1,kvs.length<=sizeLine,I.base.tups,J.stop i H,?cR p.1=?c p.2/\H p.1=none/\p.1≠X.env.locals/\p.1 ∉ X.fs/\∀v,p.2.data≠.cell v,ob.slots,[v,ov,iv],zB ?pQ x,?w9 (?lO) (?yC (?yJ ?kB Q)),sIx n 0 lo,attributeBase,⟨_,?g5,rfl,rfl⟩,(X.wish E).Ok,fun z=>(hch _ z).2.1 rfl,.(by refine ?wW ⟨xs,xs[i],q,by simp[hlt]⟩ xs.length;obtain⟨e,y⟩:=y;subst e;exact hs i x σ _ (y xs q) p),.(by refine⟨fun i m σ H=>m=xs.length-i/\?lK/\?cN,⟨?p0,?a6,qa8 _,h0⟩,?_⟩;rintro i m σ H ⟨rfl,hi,p⟩;have q:=hl i σ H hi p;by_cases hlt:i<xs.length),.(by refine ?uD;obtain⟨x,H1,I1,rx,a,dx,fs,ex,ea,l,q⟩:=_z;subst ex;obtain rfl:?eV:=rx;refine Sb I1 ea c hm l ?_),.(by have I1:?oY:=?xT (fun b o hb e=>?u9 e);obtain⟨o,e,c,d⟩:=id st'),∀(hs:∀i x σ H,?cL->?cN->g x σ H ?pM) (hd:∀σ H,Pv ?p0 σ H->?bR),a,.(by first | rfl | simp[Around.under,Code.weight,Code.isCreation,Code.isGuard,Code.isCaller,Code.frames,Code.isFrame,guardIds]),.(by refine Df (?wH hb _) fun u s2 _z=>?_;obtain⟨y,H2,I2,r2,q2⟩:=_z;exact hf v u s2 x y H2 I2 r1 r2 q2),.(by rw[e]at e';cases e';rw[d]at d';injection d' with d1 _;have:its=its':=by simpa using ?bP Array.toList d1),.(by intro Ac s σ H xs us Q I r h;obtain⟨i,j,rfl,q⟩:=h;obtain⟨u,w',rfl,⟨t,rfl⟩,⟨t',rfl⟩⟩:=Xo r),∀(mu:?sG)(he:?pF)(k:∀b u,b≠e->?k7)(zR:?mX),a,∀(hf:∀v u s2 x y H2,?wF H2 s2->?iP->?fK->?sZ->?d ?g X.A ?kB Q ?h s2),a,.(by obtain⟨σ3,H3,I3,n3⟩:=q3;obtain⟨m',hm,w3⟩:=hN σ3 H3 n3;exact⟨m',hm,σ3,H3,I3,w3⟩),.(by rw[qk2 (?g8 hj)]at e2;obtain⟨u',r',q⟩:=hl j y v' e1 e2 e3;refine⟨u',r',?_⟩),∀(hi:?gO:=by rfl)(hx:?uO:=by first | exact Or.inl rfl | exact Or.inr rfl),a,.(by obtain⟨o',es',QS,ho',r'⟩:=hm;rw[ho]at ho';cases ho';exact⟨_,es',QS,hL,r'⟩),.(by have e2:(op==CmpOp.NotIn)=false:=?x8 h2),.(by have e1:(op==CmpOp.In)=false:=?x8 h),.(by subst e;obtain⟨o,e,c,d⟩:=st;exact⟨o,e,fun v z=>by rw[d]at z;cases z⟩),.(by intro Ac s σ H R I h;refine Df (?wR hl h) ?e9),∀(X:?eZ)(I:?oO)(hg:?iT K C ?R=true),a,∀(hs:?jY e (?c (?qU)) ?gE ?f=?gN:=by rfl),a,.(by obtain⟨d,rfl,q⟩:=q1;cases r1;exact qj4 ⟨H1,I1,q⟩),.(by subst hj;rw[hi]at e1;cases e1;rw[qn9 hiσ]at e2;cases e2),.(by have hf:H1 ?bS=none:=I1.hok.fresh ?bZ),.(by cases y<;>exact ?t0),.(by rcases C8 hv with⟨j,u,rfl,rfl⟩|⟨y,u,rfl,rfl⟩),.(by subst e;exact ?j ⟨⟨xs,q,?gX⟩,?oE⟩),.(by obtain⟨a,e,⟨xs,hq⟩,q⟩:=q1;subst e;cases r1),∀{pl:?j6}(he:?n2)(c:?kW)(hm:QC X.K C m f),a,∀{ta:TA}{p pos:Pos}(hg:Gl X ?e8)(hm:X.mg ?e8=none),a,∀{P:?I}{vs:?u}{i:Nat}{m:?bD},a,.(by rcases C8 hb with⟨j,u,rfl,e⟩|⟨y,u,rfl,e⟩),∀(hg:?l0)(hm:?kA)(hv:?fI=?r),a,.(by obtain⟨σ7,H7,I7,n7⟩:=q7;exact again I7 n7),.(by refine ?p5),∀{g':?h1 GenState}{t':Nat}{d':Drawn}{ch:?D},a,∀{h:Heap}{a:Addr}{items:?b7}(x:Md h a ?eD),a,.(by have e:b=s1.heap.objs.size:=?g2),∀{pl:?j6}{Q:Value × ?u->?bJ},a,.(by obtain⟨m,⟨o,es,ep,ho,r⟩,_⟩:=id ?eA),∀(h:ta σ H fun x H1=>tb σ H1 fun y H2=>?sZ),a,∀(k:∀b u,?pC),a,∀(hp:PassesOwn ?g X.A ?f ?h),a,∀{binds:?g4}{m:?bD},a,∀{X:Cx}{CX:QO}{k:Nat}{f C:Addr}{fd:FuncData},a,∀(σ':St) (H':Hp) (i:?tA),a,∀(hh:?u0),a,∀{X:Cx}{a b c:Expr}{ta tb tc:TE},a,∀(hm:?hL),a,∀{l:Expr}{tl:TE}(hl:?yF l tl),a,@(?d ?g X.A ?a ?b ?h s),@(["enumerate","zip","dict_itemiterator","dict_reverseitemiterator","odict_iterator","itertools.zip_longest","itertools.pairwise"].contains ?a),@(IE CX P w K mg ?aD N ?aX ?aO f ?a A ?B s H E),@(fun σ H Q=>?a σ H fun x H1=>?b),@(qq1 (h₀:=X.base) ?iV ?a (Df (ha pos Ac s σ H _ I h) fun us s1 ⟨vs,H1,I1,r,q⟩=>⟨I1.kIn,?_⟩) he hpl),@(?a (Df (ha pos Ac s σ H _ I h) fun us s1 ⟨vs,H1,I1,r1,q1⟩=>hc Ac s1 σ H1 vs us Q I1 r1 q1) he hpl),@(Bl X Ac σ ?a ?b),@(?d ?a A ?b Q E s),@(?a Ac s1 σ H1 ?b I1 q1),@(X.s₀.heap.objs.size<=?a),@(?a (Df (h pos Ac s σ H _ I hq) fun us s1 ⟨xs,H1,I1,r,z,q⟩=>⟨by rw[←r.length];exact z,?_⟩)),@(?a fun _ _ _ _ _ _ _ q=>?b q),@((?a).go i H/\∃N:?z,?hK/\∀x H',(?b).yld i H x H'->?fE),@(EY (s:=?gL) e c d ?cT ⟨x,H,I1,ru,⟨rfl,fun ys hy=>by rw[?a hy hq];exact hx⟩,st',?lN⟩),@(sp (?k x::?bL) (upd (upd ?a dx (.own x)) x (.ins C dx [])) (fun v H2=>v=?w/\Q ?cC H2) E),@(OpR X ?a (UT fun i j=>.bl ?b)),@(?a4 (?bF ?a m apos) ?b [] pos),@(YX ha hb I h fun v u s2 x y H2 I2 rx ry q=>ho Ac s2 σ H2 x y v ?a Q I2 rx ry q),@(?a Ac s σ H _ I ?b),@(?a4 (?c2 ?a p) ?b [] pos),@(PE X (?gW ?a j pos) (tC ?b)),@(?fH pos f first (?eE pos ?a) ?g0),@(?bB ?a ?S "__setattr__"=?c (?c (?bY "object.__setattr__"))),@(?y ⟨?a,?hC,fun σ' H' p'=>⟨?b-?eW,O9m,rfl,hlt,p'⟩,?mM⟩),@(St->Hp->(?a)->Prop),@(∀[?w2],(∀v,(x,v) ∉ binds)->?a ?aC binds m x=m x),@(?a (i:=i) (qh6.mp nd).2 (?iN) (by simpa using h2) hk),@(W.fnOf ?R ?aX params body ?aO dV kV doc pm an Dk ?a),@(?c { cls:=?bM,data:=?dI ?a }),@(fun _ _ _ H _ I h=>?a ?b),@(E6 X (?bY ?a) (fun xs H Q=>∃i j,xs=?j5/\Q (?i ?b) H)),@(?a (Co I q (?bP not ?b))),@(sc.names.lookup x=?a),@(fun _ _ _ _ _ st h=>?a st h),@(show ?a from r),@(by cases op<;>first | rfl | exact ?C rfl ?a),@(by rw[I.ok.glob];exact I.mod.glob.keeps ?a),@(?a X (?gM a [op] [b] pos) ?b),@(⟨?bS,?tP,_,_,H1,rfl,?p6,?a a _,?uS,?eU,q⟩),@(fun b ps q=>⟨#[],by rw[Aj ?a,q];simp⟩),@(NP X Ac ?a s'),@(?bB K ?S ?a),@(?a c o (I.cne x c e) hc bV ho (?aQ x c e)),@(fun σ H Q=>t σ H fun xs H1=>?a Q xs H1),@(Vo P w K tg (?a) [it] it (fun i h=>?b it a i)),@(Un fs ex H ?a h ?b),@(?C (qb3 ?a ?b) ?eF),@(?a b o e n hb ?b),@(?Z .And ?a pos),@(⟨?k ?bS,upd H1 ?bS ?a,?oD,rfl,q _ hf⟩),@(∀[?cB][?M] (n:Nat),?b9->?G (?a n) (?b n)),@(ho Ac s2 σ H2 x y v u ?a I2 r1 r2 q2),@(fun b u q n _=>by rw[Aj ?a];exact n),@(⟨?i ?a,H,?cP,?a8,q⟩),@(show ?a a ?bU from p),@(A.under (?bY ?u1 ⟨?hR::?a,kw⟩)),@(?kS (t':=s.toks) ?a f0 f1 f3 f4 f5),@(?Z .Or ?a pos),@(⟨(hs.2 p.1 ?a).trans e,n,ne,nf,d⟩),@(fun σ H R=>ta σ H fun vs H1=>?a),@(fun i H x H'=>H'=H/\∀xs,?a->?cL),@(?d _ _ ?a _ _ s),@(∀p,?s8->Q (?k p) (upd H1 p ?a)),@(fun σ H R=>tl σ H fun x H1=>?a),@((?aT b ?a e).stay ?b (fun _ q=>q) ?e0),@(⟨?a,H1,I1,rfl,q1⟩),@(∀x c,?aU->c≠?a),@(qs5 (L1 ?a hg hm hv ?_ hn hdb)),@(?d ?g X.A ?a Q E s),@((cD h H).get? b=?a),@((?a).stop i H/\?bR),@(fun i j=>?i ?a),@(?a ?aC ?hJ m ?b=_),@(∀[?E] (D:Ends),?p->?s3->?w9 (?a st ?f) (SP X Ac D)),@(?p->?dK->?w9 ?a (?b X Ac σ Q)),@(fun v s₁=>?d ?g X.A (?iJ) ?a ?h s₁),@(PE X (?wS x ?a9) ?a),@(PE X (?wP o ?a) (IW C m sp dvs E ta ?b)),@(PE X ?a ?b),@(?a st ?b (x:=u) (by simpa using hu) ?uE),@(fun b o _ hb _ e n=>?xK ?a ?P),@(?a->Prop),@(fun u s₂=>?d ?g X.A ?a ?b ?h s₂)])
theorem O9m{p:Prop}(h:p:=by omega):p:=h
def qa0:=@List.getElem?_eq_getElem
def qa1:=@Nat.le_refl
def qa2:=@List.getElem?_eq_some_iff
def qa3:=@PySem.wpAny_bind
def qa4:=@List.length_map
def qa5:=@PySem.Heap.get?_push_of_some
def qa6:=@Nat.le_trans
def qa7:=@List.getD_eq_getElem?_getD
def qa8:=@Nat.zero_le
def qa9:=@List.getElem?_map
def qb0:=@List.mem_of_getElem?
def qb1:=@Int.natAbs_mul
def qb2:=@PySem.Heap.lt_size
def qb3:=@Nat.lt_of_lt_of_le
def qb4:=@PySem.wpAny_pure
def qb5:=@List.map_append
def qb6:=@PySem.PassesOwn.never
def qb7:=@Nat.mul_le_mul_right
def qb8:=@Nat.lt_of_le_of_lt
def qb9:=@List.mem_cons
def qc0:=@PySem.Heap.get?_push_size
def qc1:=@List.size_toArray
def qc2:=@Bool.and_eq_true
def qc3:=@List.length_append
def qc4:=@Int.natAbs_neg
def qc5:=@List.mem_cons_of_mem
def qc6:=@Option.some.inj
def qc7:=@Nat.ne_of_lt
def qc8:=@of_decide_eq_true
def qc9:=@List.length_take
def qd0:=@List.length_cons
def qd1:=@List.getElem?_append_left
def qd2:=@List.take_length
def qd3:=@Bool.false_ne_true
def qd4:=@PySem.F.plainAttrs_list
def qd5:=@Int.one_mul
def qd6:=@List.getElem?_append_right
def qd7:=@Nat.pow_add
def qd8:=@Nat.le_of_lt
def qd9:=@List.mem_map
def qe0:=@List.map_cons
def qe1:=@List.all_eq_true
def qe2:=@List.mem_cons_self
def qe3:=@Nat.mul_le_mul_left
def qe4:=@List.getElem_mem
def qe5:=@List.mem_range
def qe6:=@Int.toNat_natCast
def qe7:=@Nat.pow_le_pow_right
def qe8:=@Nat.le_add_right
def qe9:=@List.not_mem_nil
def qf0:=@Nat.mul_le_mul
def qf1:=@Int.natAbs_add_le
def qf2:=@Nat.one_mul
def qf3:=@Int.mul_zero
def qf4:=@Int.mul_comm
def qf5:=@Nat.add_mul
def qf6:=@Int.mul_assoc
def qf7:=@List.take_succ
def qf8:=@decide_eq_true
def qf9:=@List.mem_append_right
def qg0:=@Decidable.byContradiction
def qg1:=@List.getElem?_of_mem
def qg2:=@Nat.le_of_not_lt
def qg3:=@PySem.F.type_list_append
def qg4:=@PySem.F.slot_list_append
def qg5:=@PyProof.Rows.callWith_type1
def qg6:=@Nat.pow_succ
def qg7:=@Nat.lt_or_ge
def qg8:=@Int.fdiv_eq_ediv_of_nonneg
def qg9:=@PySem.wpAny_field
def qh0:=@PySem.boot_len
def qh1:=@Int.natAbs_ediv_le_natAbs
def qh2:=@Nat.pow_lt_pow_right
def qh3:=@List.getElem?_eq_none
def qh4:=@Nat.le_mul_of_pos_right
def qh5:=@Option.map_eq_some_iff
def qh6:=@List.nodup_cons
def qh7:=@PySem.wpAny_setField_rec
def qh8:=@Nat.sub_self
def qh9:=@List.length_filter_le
def qi0:=@PySem.Heap.size_push
def qi1:=@Nat.le_antisymm
def qi2:=@List.mem_filter
def qi3:=@List.length_set
def qi4:=@Nat.succ_le_succ
def qi5:=@Nat.lt_of_not_le
def qi6:=@List.length_drop
def qi7:=@List.length_eraseIdx_of_lt
def qi8:=@List.take_of_length_le
def qi9:=@List.replicate_succ
def qj0:=@List.getElem_of_mem
def qj1:=@PySem.W.mg_none_of
def qj2:=@decide_eq_false
def qj3:=@Int.mul_le_mul_of_nonneg_right
def qj4:=@PySem.wpAny_truthy_bool
def qj5:=@Int.mul_ediv_cancel_left
def qj6:=@Int.mul_nonneg
def qj7:=@beq_eq_false_iff_ne
def qj8:=@PySem.wpAny_mono
def qj9:=@Nat.one_le_two_pow
def qk0:=@Nat.ne_of_gt
def qk1:=@PySem.wpAny_call_entry
def qk2:=@List.getElem?_set_ne
def qk3:=@Nat.lt_trichotomy
def qk4:=@List.range_succ
def qk5:=@List.flatten_cons
def qk6:=@Nat.le_of_eq
def qk7:=@Int.zero_mul
def qk8:=@List.mem_map_of_mem
def qk9:=@PySem.wpAny_newObj_type
def ql0:=@Int.mul_le_mul_of_nonneg_left
def ql1:=@Nat.le_mul_of_pos_left
def ql2:=@List.mem_append
def ql3:=@List.map_map
def ql4:=@List.length_replicate
def ql5:=@List.length_nil
def ql6:=@Bool.eq_iff_iff
def ql7:=@PySem.wpAny_seqItems
def ql8:=@List.any_cons
def ql9:=@Int.le_of_dvd
def qm0:=@PySem.wpAny_pyIter_tuple
def qm1:=@List.mem_append_left
def qm2:=@PySem.wpAny_passesOwn
def qm3:=@List.mem_or_eq_of_mem_set
def qm4:=@Nat.mul_lt_mul''
def qm5:=@List.filter_cons
def qm6:=@PySem.wpAny_holding
def qm7:=@PySem.mem_of_lookup
def qm8:=@Nat.le_succ
def qm9:=@Int.neg_neg
def qn0:=@Int.neg_mul
def qn1:=@Int.mul_one
def qn2:=@PySem.F.slot_tuple_iterator_next
def qn3:=@PySem.W.kia_one
def qn4:=@Nat.lt_irrefl
def qn5:=@List.nil_append
def qn6:=@List.getElem?_take
def qn7:=@List.find?_cons
def qn8:=@List.filter_append
def qn9:=@List.getElem?_set_self
def qo0:=@decide_eq_true_eq
def qo1:=@List.take_add_one
def qo2:=@List.length_range
def qo3:=@PySem.W.methodCall_KW
def qo4:=@List.length_singleton
def qo5:=@Int.zero_add
def qo6:=@PySem.Calls.spliced_cons
def qo7:=@List.take_append_of_le_length
def qo8:=@List.lookup_cons
def qo9:=@List.any_eq_true
def qp0:=@List.mem_of_mem_take
def qp1:=@PySem.Calls.callWith_builtin
def qp2:=@List.map_take
def qp3:=@List.map_drop
def qp4:=@Nat.lt_two_pow_self
def qp5:=@List.of_mem_zip
def qp6:=@Int.mul_eq_zero
def qp7:=@PySem.F.slot_enumerate_next
def qp8:=@Bool.or_eq_true
def qp9:=@Nat.mul_lt_mul_of_pos_left
def qq0:=@Nat.le_of_mul_le_mul_right
def qq1:=@PySem.W.callWith_K
def qq2:=@List.mem_singleton
def qq3:=@Int.emod_lt_of_pos
def qq4:=@Int.add_zero
def qq5:=@Bool.false_eq_true
def qq6:=@Nat.le_of_mul_le_mul_left
def qq7:=@List.pairwise_iff_getElem
def qq8:=@PySem.F.type_list_insert
def qq9:=@PySem.F.slot_list_insert
def qr0:=@PySem.F.args_tuple_add_2
def qr1:=@List.pairwise_map
def qr2:=@List.getElem?_set
def qr3:=@List.foldl_append
def qr4:=@List.ext_getElem?
def qr5:=@Int.not_lt
def qr6:=@Int.dvd_mul_of_dvd_right
def qr7:=@PySem.F.plainAttrs_dict
def qr8:=@PySem.F.entry_tuple_add
def qr9:=@Nat.add_assoc
def qs0:=@List.getElem?_cons_zero
def qs1:=@List.filter_cons_of_pos
def qs2:=@List.filter_cons_of_neg
def qs3:=@Int.eq_ofNat_of_zero_le
def qs4:=@Int.add_mul
def qs5:=@PySem.wpAny_Call_Name_kw
def qs6:=@Nat.succ_ne_self
def qs7:=@PySem.F.slot_tuple_add
def qs8:=@Int.fmod_nonneg_of_pos
def qs9:=@PySem.wpAny_pyIter_list
def qt0:=@PySem.wpAny_pyIter_enum
def qt1:=@PySem.wpAny_dictEntries
def qt2:=@PySem.F.slot_dict_pop
def qt3:=@PySem.F.slot_dict_get
def qt4:=@Nat.zero_add
def qt5:=@Nat.lt_trans
def qt6:=@List.map_nil
def qt7:=@Int.natAbs_dvd_natAbs
def qt8:=@Int.le_trans
def qt9:=@PySem.W.mg_of
def qu0:=@List.replicate_succ'
def qu1:=@PySem.wpAny_pyIter_zip
def qu2:=@PySem.wpAny_isInstance
def qu3:=@PySem.W.plainGet_of
def qu4:=@PySem.F.slot_dict_itemiterator_iter
def qu5:=@Nat.add_le_add_left
def qu6:=@List.map_congr_left
def qu7:=@List.filter_sublist
def qu8:=@List.filterMap_cons
def qu9:=@Array.length_toList
def qv0:=@PySem.wpAny_notOrdered_dict
def qv1:=@PySem.wpAny_execs_nil
def qv2:=@List.getElem?_drop
def qv3:=@List.findIdx?_cons
def qv4:=@Int.fmod_lt_of_pos
def qv5:=@Int.dvd_trans
def qv6:=@PySem.F.slot_zip_next
def qv7:=@PySem.wpAny_rule
def qv8:=@beq_iff_eq
def qv9:=@PyProof.Rows.slot_tuple_getitem
def qw0:=@List.nodup_append
def qw1:=@List.append_assoc
def qw2:=@PySem.Calls.evalArgs_plain
def qw3:=@Nat.sub_zero
def qw4:=@Nat.pow_zero
def qw5:=@Nat.min_self
def qw6:=@Nat.add_comm
open PySem in
noncomputable abbrev At:=?m (?m Int)
open PySem in
noncomputable abbrev Bj:=?m (?pU)
open PySem in
noncomputable abbrev Ra:=?h1 (?dT)
open PySem in
noncomputable abbrev OAddr:=?bA Addr
namespace L2
open PySem PySem.Spec PyProof.Rows
noncomputable abbrev Key:=Sum Int Str
noncomputable def aN:Key->?L->?cH
 | ?j k,v=>Value.isInt k v
 | ?cX,v=>Value.isStrOf x v
noncomputable def A26(w:World):Key->Int
 | ?j k=>hashInt k
 | ?cX=>hashStr w x
theorem C8:∀{k:Key}{v:Value},aN k v=true->(∃i t,k=?gQ i/\v=Value.int i t)\/(∃x t,k=?gR x/\v=Value.str x t)
 | ?fX,v,h=>by
   obtain⟨t,e⟩:=Value.isInt_shape (k:=i) (v:=v) h;exact ?j ⟨i,t,rfl,e⟩
 | ?cX,v,h=>by
   obtain⟨t,e⟩:=Value.isStrOf_shape (x:=x) (v:=v) h;exact ?y ⟨x,t,rfl,e⟩
theorem LJ(i:Int)(t:Tok):aN (?fX) ?hD=true:=by simp[aN,Value.isInt]
theorem lJ(x:Str)(t:Tok):aN (?cX) (.str x t)=true:=by simp[aN,Value.isStrOf]
theorem xU(a b:Int):?F (?uF)=(a==b):=by
 by_cases e:a=b
 . subst e;simp
 . have h:¬?uF:=fun q=>e (Sum.inl.inj q);rw[qj2 h];exact(qj7.mpr e).symm
theorem XS(a b:Str):?F (?t9)=?F (a=b):=by
 by_cases e:a=b
 . subst e;simp
 . have h:¬?t9:=fun q=>e (Sum.inr.inj q);rw[qj2 h,qj2 e]
theorem XT(a:Int)(b:Str):?F (?n7=?gR b)=false:=qj2 (fun q=>nomatch q)
theorem xT(a:Str)(b:Int):?F (?r4=?gQ b)=false:=qj2 (fun q=>nomatch q)
noncomputable def mixKind[?mI]:PySem.KeyKind prog w Key where
 is:=aN
 hash:=A26 w
 inj:=fun v a b ha hb=>by
  rcases C8 ha with⟨i,t,rfl,rfl⟩|⟨x,t,rfl,rfl⟩
  . ext vQ
    . injection e with e1 _;rw[e1]
    . exact ?kU
  . ext vQ
    . exact ?kU
    . injection e with e1 _;rw[e1]
 byValue:=fun k v h=>by
  rcases C8 h with⟨i,t,rfl,rfl⟩|⟨x,t,rfl,rfl⟩<;>rfl
 pyHash:=fun hv h=>by
  rcases C8 hv with⟨i,t,rfl,rfl⟩|⟨x,t,rfl,rfl⟩
  . exact wpAny_pyHash_int h
  . exact wpAny_pyHash_str h
 eqBool:=fun hu hv h=>by
  rcases C8 hu with⟨i,t,rfl,rfl⟩|⟨x,t,rfl,rfl⟩
  . ext vK
    . rw[xU]at h;exact wpAny_eqBool_int h
    . rw[XT]at h;exact SeqAt.EqAt.int_str i t y u _ _ _ _ h
  . ext vK
    . rw[xT]at h;exact SeqAt.EqAt.str_int x t j u _ _ _ _ h
    . rw[XS]at h;exact wpAny_eqBool_str h
 «strs»:=fun k x t v h=>by
  rcases C8 h with⟨i,u,rfl,e⟩|⟨y,u,rfl,e⟩
  . exact ?kU
  . injection e with e1 _;subst e1;cases v<;>rfl
theorem ES[?mI](i:Int)(t:Tok):?oW (?fX) ?hD=true:=LJ i t
theorem eS[?mI](x:Str)(t:Tok):?oW (?cX) (.str x t)=true:=lJ x t
inductive V where
 | non | bl (b:Bool) | int (i:Int) | str (x:Str) | byt (b:?qF) | flt (b:UInt64) | ref [?aL] | ty (n:String)
 deriving DecidableEq
noncomputable abbrev rS[?aL]:?eM:=?c ?eI
noncomputable abbrev iS(i:Int):?eM:=?c ?dN
noncomputable def RelV:V->?yI ?L
 | ?w,u=>?qG
 | ?h2,u=>u=Value.bool b
 | ?bK,u=>?tY
 | ?cU,u=>?p1
 | .byt b,u=>?p4
 | .flt b,u=>?sW
 | ?aN,u=>?eV
 | .ty n,u=>u=Value.type n
noncomputable abbrev Vals:?q->?yI ?u:=?eJ ?aA
theorem Vals.length[?cB][?M](r:?b9):xs.length=us.length:=Paired.length r
theorem Vals.get:∀[?cB][?M]{i:Nat}{x:V},?b9->?cL->∃u,us[i]?=?r/\?c1
 | _,_,_,_,?H,e=>by simp at e
 | _,_,0,_,?K r _,e=>by simp at e;subst e;exact⟨_,rfl,r⟩
 | _,_,i+1,x,?l4,e=>by
   obtain⟨u,h1,h2⟩:=Vals.get (i:=i) (x:=x) t (by simpa using e);exact⟨u,?iN,h2⟩
theorem Vals.set{x:V}[?O](r:?c1):∀[?cB][?M] (i:Nat),?b9->?G (xs.set i x) (us.set i u)
 | _,_,_,?H=>?H
 | _,_,0,?l4=>?eT
 | _,_,i+1,?K q t=>?K q (Vals.set r i t)
theorem Vals.append:∀{xs ys:?q}{us ws:?u},?b9->?G ys ws->?G (xs++ys) (us++ws)
 | _,_,_,_,?H,s=>s
 | _,_,_,_,?eT,s=>?K r (Vals.append t s)
theorem Vals.take:?xN xs.take us.take
 | _,_,0,_=>?H
 | _,_,_+1,?H=>?H
 | _,_,n+1,?eT=>?K r (Vals.take n t)
theorem Vals.drop:?xN xs.drop us.drop
 | _,_,0,r=>r
 | _,_,_+1,?H=>?H
 | _,_,n+1,?l4=>Vals.drop n t
noncomputable def M5:?eM->?yI ?dT
 | ?a5,?r=>?b0
 | none,none=>True
 | _,_=>False
noncomputable def KV{κ:Type}:?m (κ × V)->?m (?tO)->Prop:=?eJ fun(p:κ × V) (q:?tO)=>p.1=q.1/\?aA p.2 q.2
noncomputable def kV:Key->V
 | ?fX=>?bK
 | ?cX=>?cU
inductive HO where
 | lst [?cA]
 | tup [?cA]
 | dK (kvs:?m (Key × V)) | dT (kvs:?m (?pR))
 | set (S:?u4) (n:Nat)
 | ins (C dx:Addr) (fs:?aR)
 | own (x:Addr)
 | xd (fs:?aR)
 | met (f x:Addr)
 | rng (lo hi:Int)
 | frz (o:Obj) (u:HO)
 | tbl (ps:?b7)
 | ext (φ:?qN)
noncomputable abbrev Hp:=Addr->?bA HO
noncomputable def upd(H:Hp)[?aL](o:HO):Hp:=fun b=>if b=a then ?v else H b
theorem Ab{H:Hp}[?b5]{o:HO}:upd H a o a=?v:=by unfold upd;rw[?aZ rfl]
theorem Aj{H:Hp}{a b:Addr}{o:HO}(h:b≠a):upd H a o b=H b:=by unfold upd;rw[?A h]
theorem Eu{H:Hp}{a b:Addr}{o u:HO}(h:?h6)(h':?jE)(d:o≠u):a≠b:=by
 intro e;subst e;rw[h]at h';exact d (qc6 h')
theorem Ao{H:Hp}{a b:Addr}{o:HO}(h:?h6)(h':?x):a≠b:=by
 intro e;subst e;rw[h]at h';cases h'
noncomputable def Md[?aM][?aL](items:?b7):Prop:=∃o,?gD/\?pZ/\?nV/\∃n,o.data=.seq ?eD n
theorem Md.tup[?vV]:?hF h a ?eD:=let ⟨o,e,c,_,d⟩:=x;⟨o,e,c,d⟩
theorem Md.lt[?vV]:?lU:=x.tup.lt
theorem Md.new[?aM](items:?b7):Md (h.push { cls:=?lM,data:=.seq ?eD }) ?n4 ?eD:=?tN
section
variable[?c6]
noncomputable def ObjOk(H:Hp)[?aM][?aL]:?yI HO
 | .lst xs=>?cJ/\∃(its:?u) (n:Nat),?fZ/\?a3=?c { cls:=?rQ,data:=.seq ?bU n }
 | .tup xs=>?cJ/\∃its:?u,?fZ/\Md h a ?bU
 | .dK kvs=>?uI/\?qR/\∃vs,KV kvs vs/\h.DictOf (mixKind P w) a vs
 | .dT kvs=>?uI/\?qR/\∃xs:?m (?pG),
    ?eJ (fun(p:?pR) (q:?pG)=>p.1=q.1/\H q.2.1=?c (.tup (p.1.map kV))/\?aA p.2 q.2.2) kvs xs ∧
    ∃o es ep,?gD/\o.ExactDict/\o.data=.dict es ep/\es.toList=xs.map (entryOfKey (tupleKind (mixKind P w)))/\(xs.map (·.1)).Nodup
 | .set S n=>h.SetOf (intKind P w) a S n
 | ?j9=>?tK/\?o8/\dx≠a/\?a3=?c (?hS C dx) ∧
    ∃mA,?j0/\(?kZ)/\?jQ mA (?hO (·.1))
 | .own _=>?sY
 | .xd fs=>∃mA,h.Ns1 a mA/\?kZ
 | .rng lo hi=>∃t u v,?a3=?c ?kH
 | ?sT=>?gD/\?aP H h a u
 | .tbl ps=>?a3=?x1 ps
 | .met f x=>?a3=?c (?jJ ?T ?cC)
 | .ext φ=>φ h/\(?sY)/\∀h1 h2:Heap,φ h1->(∀o,h1.get? a=?v->h2.get? a=?v)->φ h2
noncomputable def Q7(H:Hp)[?aM]:Prop:=∀a o,?h6->?l6
universe e9
section
variable[?aI]{H H':Hp}{h h':Heap}[?b5]{o:HO}
theorem ObjOk.lt(x:?l6):?lU:=by
 cases o with
 | lst xs=>obtain⟨_,_,_,_,e⟩:=x;ext aK
 | tup xs=>obtain⟨_,_,_,p⟩:=x;exact p.lt
 | dK kvs=>obtain⟨_,_,_,_,o,_,_,e,_⟩:=x;ext aK
 | dT kvs=>obtain⟨_,_,_,_,o,_,_,e,_⟩:=x;ext aK
 | set S n=>obtain⟨o,_,_,_,e,_⟩:=x;ext aK
 | ins C dx fs=>obtain⟨_,_,_,e,_⟩:=x;ext aK
 | own y=>obtain⟨_,e⟩:=x;ext aK
 | xd fs=>obtain⟨_,⟨_,_,_,e,_⟩,_⟩:=x;ext aK
 | rng lo hi=>obtain⟨_,_,_,e⟩:=x;ext aK
 | frz ob u=>obtain⟨e,_⟩:=x;ext aK
 | tbl ps=>exact qb2 (show ?a3=?c _ from x)
 | met f y=>exact qb2 (show ?a3=?c _ from x)
 | ext φ=>obtain⟨_,⟨_,e⟩,_⟩:=x;ext aK
theorem Paired.mapP{α β:Type}{F G:α->?yI β}:∀{l₁:?m α}{l₂:?m β},?eJ F l₁ l₂->(∀a b,F a b->G a b)->?eJ G l₁ l₂
 | _,_,?H,_=>?H
 | _,_,?eT,f=>?K (f _ _ r) (?nW t f)
theorem ObjOk.stay(x:?l6)(k:∀b u,(b=a\/H b=?hI)->?k7)
 (ho:∀b,H b=?hI->H' b=?hI) (ht:?kX):?aP P w H' h' a o:=by
 induction o with
 | lst xs=>obtain⟨z,its,n,r,e⟩:=x;exact⟨z,its,n,r,?X⟩
 | tup xs=>obtain⟨z,its,r,ob,e,c⟩:=x;exact⟨z,its,r,ob,?X,c⟩
 | dK kvs=>obtain⟨z,y,vs,r,ob,es,ep,e,c⟩:=x;exact⟨z,y,vs,r,ob,es,ep,?X,c⟩
 | dT kvs =>
   obtain⟨z,y,xs,r,ob,es,ep,e,c⟩:=x;exact⟨z,y,xs,?nW r fun p q z=>⟨z.1,ht _ _ z.2.1,z.2.2⟩,ob,es,ep,?X,c⟩
 | set S n=>obtain⟨ob,es,ep,t,e,c⟩:=x;exact⟨ob,es,ep,t,?X,c⟩
 | ins C dx fs =>
   obtain⟨d,z,ne,e,mA,⟨od,es,ep,e2,c⟩,r⟩:=x;exact⟨ho _ d,z,ne,?X,mA,⟨od,es,ep,k _ _ (?y d) e2,c⟩,r⟩
 | own y=>obtain⟨ob,e⟩:=x;exact⟨ob,?X⟩
 | xd fs=>obtain⟨mA,⟨od,es,ep,e,c⟩,r⟩:=x;exact⟨mA,⟨od,es,ep,?X,c⟩,r⟩
 | rng lo hi=>obtain⟨t,u,v,e⟩:=x;exact⟨t,u,v,?X⟩
 | frz ob u ih=>obtain⟨e,q⟩:=x;exact⟨?X,ih q⟩
 | tbl ps =>
   have e:?a3=?x1 ps:=x;show ?e7 a=?x1 ps;exact ?rY
 | met f y =>
   have e:?a3=?c (?jJ ?T (?k y)):=x;show ?e7 a=?c (?jJ ?T (?k y));exact ?rY
 | ext φ=>obtain⟨p,⟨o,e⟩,st⟩:=x;exact⟨st _ _ p fun o q=>k _ _ ?fO q,⟨o,?X⟩,st⟩
theorem Q7.lt[?fB](e:?h6):?lU:=(x a o e).lt
theorem Q7.fresh[?fB](e:?m2):?kJ:=by
 cases q:H a with
 | none=>rfl
 | some u=>exact ?xJ (x.lt q) e
theorem Q7.kept[?fB][?i1]:Q7 P w H h':=fun a o e =>
 (x a o e).stay (fun b u _ q=>?gS) (fun _ q=>q) ?e0
theorem Q7.laid[?fB][?i1](hp:?m2)(new:?aP P w ?eX h' a o):Q7 P w ?eX h':=fun b u e=>by
 have hn:=x.fresh hp;by_cases hb:b=a
 . subst hb;rw[Ab]at e;cases e;exact new
 . rw[Aj hb]at e;exact(x b u e).stay (fun c v _ q=>k c v q) (fun c q=>?gG) fun c xs q=>?gG
universe e9
noncomputable def Rd(H:Hp)[?aL](u:HO):Prop:=H a=?r\/∃o,H a=?lV
theorem Rd.ok[?aI]{H:Hp}{h:Heap}[?b5]{u:HO}(r:Rd H a u)[?fB]:?aP P w H h a u:=by
 rcases r with r|⟨o,r⟩
 . exact x a u r
 . obtain⟨_,q⟩:=x a _ r;exact q
noncomputable def Mut:?bA HO->Prop
 | ?c (.lst _)=>True
 | ?c (.dK _)=>True
 | ?c (.dT _)=>True
 | ?c (.set _ _)=>True
 | ?c (.ins _ _ _)=>True
 | ?c (.ext _)=>True
 | _=>False
section
variable[?aI]{H:Hp}{h h':Heap}{x e:Addr}{o':HO}
theorem Q7.write(ok:?lP)[?v4]
 (new:?aP P w (upd H x o') h' x o'):Q7 P w (upd H x o') h':=fun b u q=>by
 have Ag6:∀c y,H c=?c (.own y)->c≠x:=fun c y r z=>?oT
 have Az7:∀c xs,H c=?gJ->c≠x:=fun c xs r z=>?oT
 by_cases hb:b=x
 . subst hb;rw[Ab]at q;cases q;exact new
 . rw[Aj hb]at q;by_cases yG:b=e
   . have q':H b=?c (.own x):=by
      rcases he with z | z
      . exact ?C (yG.trans z) hb
      . rw[yG];exact z
     rw[q]at q';cases q';obtain⟨v,hv⟩:=zR;exact⟨v,by rw[yG];exact hv⟩
   . refine(ok b u q).stay (fun c v hc r=>k c v ?_ r) (fun c r=>by rw[Aj (Ag6 c b r)];exact r) fun c xs r=>by rw[Aj (Az7 c xs r)];exact r
     rcases hc with rfl | hc
     . exact yG
     . rintro rfl;rcases he with z | z
       . exact Ag6 c b hc z
       . rw[hc]at z;cases z;exact hb rfl
universe e9
structure Un(fs ex:?D)(H H':Hp)(h h':Heap):Prop where
 keep:∀b o,?aW->?x->b ∉ fs->?e1->?gC
 slot:∀b o,?aW->?x->b∈fs->?e1->?t5
 free:∀b o,?aW->?x->?e1->?fL
 there:∀b o,?aW->?e1->?oQ
 tups:?kX
 frzs:?rF
 tbls:?rJ
section
variable{fs fs' ex ex':?D}{H H1 H2:Hp}{h h1 h2 h':Heap}{a x e:Addr}{o:HO}
theorem Un.any(u:?xI H1 h1){b:Addr}{ob:Obj}(q:?gA=?c ob)(n:?x)(hx:?e1):∃sl,h1.get? b=?c { ob with slots:=sl }:=by
 by_cases hb:b∈fs
 . exact u.slot b ob q n hb hx
 . exact⟨?uM,?jL b ob q n hb hx⟩
theorem Un.kept[?i1]:?xI H h' :=
 ⟨fun b ob q _ _ _=>?iO,fun b ob q _ _ _=>⟨?uM,?iO⟩,fun _ _ _ n _=>n,fun b ob q _=>⟨ob,?iO⟩,?e0,fun _ _ _ q=>q,fun _ ps q=>⟨#[],by rw[q];simp⟩⟩
theorem Un.refl:?xI H h:=?iM ?e0
theorem Un.laid[?i1](hp:?m2)(hn:?kJ):?xI ?eX h' where
 keep:=fun b u q _ _ _=>?gS
 slot:=fun b u q _ _ _=>⟨u.slots,?gS⟩
 free:=?xP (qc7 (qb3 (qb2 q) hp))
 there:=fun b u q _=>⟨u,?gS⟩
 tups:=fun b xs q=>?gG
 frzs:=fun b u xs q=>?gG
 tbls:=?xC (Ao q hn)
theorem Un.write[?v4]:?xI (upd H x o) h':=by
 have hx:∀b,?x->b≠x:=fun b n z=>by subst z;rw[n]at mu;exact mu
 have hb:∀b,?x->b≠e:=fun b n z=>by
  subst z;rcases he with r | r
  . exact hx b n r
  . rw[n]at r;cases r
 have hm:∀b u,?jE->¬Mut (?r)->b≠x:=fun b u q nm z=>by subst z;rw[q]at mu;exact nm mu
 refine⟨fun b u q n _ _=>?pT,fun b u q n _ _=>⟨u.slots,?pT⟩,?xP (hx b n),fun b u q _=>?_,
  fun b xs q=>?pL,fun b u xs q=>?pL,?xC (hm b _ q fun z=>z)⟩
 by_cases yG:b=e
 . subst yG;exact zR
 . exact⟨u,k b u yG q⟩
universe e9
noncomputable def trk[?aM](H:Hp):?D:=(?nZ ?n4).filter fun a=>(H a).isSome
noncomputable def cD[?aM](H:Hp):Heap:=PySem.W.hideAll h (trk h H)
theorem LP[?aM](H:Hp):(cD h H).objs.size=h.objs.size:=PySem.W.hideAll_size _ _
theorem pA{h:Heap}{H:Hp}[?iF](e:?aW)(n:?x):?y6 ?v :=
 PySem.W.hideAll_get _ e fun hm=>by
  have q:(H b).isSome=true:=(qi2.mp hm).2;rw[n]at q;simp at q
theorem SO{h:Heap}{H:Hp}[?iF](e:?y6 ?v):?aW/\?x:=by
 have e':h.get? b=some o:=PySem.W.of_hideAll (trk h H) e;refine⟨e',?_⟩;cases q:H b with
 | none=>rfl
 | some x =>
   have hm:b∈trk h H:=qi2.mpr ⟨qe5.mpr (qb2 e'),by simp[q]⟩;have z:?y6 none:=PySem.W.hideAll_none (trk h H) hm;rw[z]at e;cases e
structure Mod[?l][?i5]:Prop where
 kin:K.In ?aD
 glob:base.Ns mainGlobals mg
 blt:∃mb,base.Ns builtinsNs mb/\∀x:Str,x≠"__name__"->mb x=?fI
 nolimit:base.NoLimit
structure Cx where
 prog:Program
 w:World
 K:PySem.W.Frag
 mg:?bD
 base:Heap
 A:Around
 N:?I
 s₀:Shared
 H₀:Hp
 env:Env
 outer:?bE
 stack:?bE
 ex:?D
 fn:Str->?cH
 calm:Bool
 pn:Bj
 xe:?bX
noncomputable def MR(l:?bE):?D:=l.filterMap (·.frame)
noncomputable abbrev Cx.fs(X:Cx):?D:=MR ?h4
noncomputable def Vis(sc:Scope)(x:Str):Prop:=?x5 ?bV\/?jW\/?x5 ?fY
noncomputable def zB(sc:Scope)(x:Str):Prop:=?sE
noncomputable def Bf6(env:Env)[?aM](m:?bD)(x:Str)(u:Value):Prop :=
 (env.kindOf x=?bV/\m x=?r)\/((env.kindOf x=?eK\/env.kindOf x=?fY)/\∃c,env.cells.lookup x=?hB/\h.IsCell c (?r))
structure Cx.Ok(X:Cx):Prop where
 mod:?pH
 kind:X.env.scope.kind=?oN
 glob:X.env.globals=mainGlobals
 blt:X.env.builtins=builtinsNs
 above:?wI X.env.locals
 inj:∀x y c,?aU->?m1 y=?hB->x=y
 has:∀x,(X.env.kindOf x=?eK\/X.env.kindOf x=?fY)->∃c,?aU
 cab:∀x c,?l2->?aU->?wI c
 hd:?fJ->X.A.handled=none
 frames:X.A.frames=?c ?c3
 stk:X.stack=X.outer\/(X.stack=X.env::X.outer/\X.env.frame=?c ?fG)
 exf:∀b∈X.ex,?d0/\?pD
 bs:∀b o,?e5->?kQ/\?tE
 bsz:X.base.objs.size<=X.s₀.heap.objs.size
 noex:∀b o,?e5->?rS
 exfs:∀b∈X.ex,?gV
 funs:?q1 ?bG ?h4
 frf:∀b∈X.fs,?tE
structure Bl[?a0](σ:?k0)(H:Hp)[?b3]:Prop where
 ok:X.Ok
 os:s.os=X.s₀.os
 bare:?nU
 base:Un X.fs X.ex X.H₀ H X.s₀.heap ?o
 loc:∃m,?qZ/\∀(i:Nat) (x:Str) (v:V),?gO->?qO->?t3->∃u,?b0/\Bf6 ?f ?o m x u
 cell:∀x c,?aU->∃v,s.heap.IsCell c v
 free:H ?fG=none
 freeC:∀x c,?aU->H c=none
 pin:∀p∈?k1,?uL
 hok:Q7 ?W X.w H ?o
 len:σ.length=X.N.length
section
variable{X:Cx}{Ac:Bj}{σ:?k0}{H H':Hp}[?b4]{h':Heap}
theorem Cx.Ok.nofr(ok:X.Ok)[?iF](e:?e5):?gV:=fun hb=>by
 have:=(ok.funs.mem hb).1;rw[e]at this;cases this
theorem Bl.bs[?e]:∀b o,?e5->?sV:=fun b o e =>
 ⟨?h0 b o (?fW).1 (?fW).2 (I.ok.nofr e) (I.ok.noex b o e),?cM b o (?fW).1 (?fW).2 (I.ok.noex b o e)⟩
theorem Bl.bk[?e]:∀b o,?e5->?b8:=fun b o e=>(I.bs b o e).1
theorem Bl.mod[?e]:?pH:=I.ok.mod
theorem Bl.kIn[?e]:X.K.In ?o:=I.ok.mod.kin.keeps I.bk
theorem Bl.lt[?e]:X.env.locals<s.heap.objs.size:=let ⟨_,hn,_⟩:=I.loc;hn.lt
theorem Bl.sz[?e]:?wI s.heap.objs.size:=qa6 ?hN (qd8 I.lt)
theorem Bl.nofs[?e][?b5](h:?oF):a ∉ X.fs:=fun hb=>by
 obtain⟨_,o,ho,_⟩:=I.ok.funs.mem hb;exact ?xJ (qb2 ho) (qa6 I.sz h)
theorem Bl.cne[?e]:?y3 X.env.locals:=fun x c e z=>by
 obtain⟨v,o,ho,hd⟩:=?fT;obtain⟨m,⟨o',es,ep,ho',hd',_⟩,_⟩:=I.loc;rw[z,ho']at ho;cases ho;rw[hd']at hd;cases hd
theorem Bl.funs[?e]:?gF ?bG ?h4:=by
 have all:∀(l:?bE),(∀b∈MR l,?u8)->?q1 ?bG l->?gF ?bG l:=by
  intro l
  induction l with
  | nil=>intro _ _;trivial
  | cons env r ih =>
    intro hs hl;obtain⟨hk,⟨L,o,hf,hn,ho,hd⟩,hr⟩:=hl;have hL:L∈X.fs:=hs L (by unfold MR;rw[qu8,hf];exact qe2);obtain⟨sl,e⟩:=?s1 L o ho (?uC L hL) hL fun z=>?mP L z hL;exact⟨hk,⟨L,_,hf,hn,e,hd⟩,ih (fun b hb=>hs b (by unfold MR;rw[qu8,hf];exact ?mN)) hr⟩
 exact all ?h4 (fun _ hb=>hb) I.ok.funs
theorem Bl.stack[?e]:?gF ?bG ?c3:=by
 rcases I.ok.stk with e|⟨e,hf⟩
 . rw[e];exact I.funs
 . rw[e];obtain⟨m,hn,_⟩:=I.loc;refine ?K (by rw[I.ok.kind];decide) hf hn ?_ I.funs;exact Heap.get?_none_of_le (qa6 ?n0 ?hN)
theorem Bl.stkSub[?e]:∀b∈?hT,b∈X.env.locals::X.fs:=fun b hb=>by
 rcases I.ok.stk with e|⟨e,hf⟩
 . rw[e]at hb;exact ?mN
 . rw[e]at hb;unfold MR at hb;rw[qu8,hf]at hb;exact hb
theorem Bl.stkFree[?e]:∀b∈?hT,?x:=fun b hb=>by
 rcases ?jI (?nD b hb) with e | hb
 . rw[e];exact I.free
 . obtain⟨_,o,ho,_⟩:=I.ok.funs.mem hb;exact ?cM b o ho (?uC b hb) fun z=>?mP b z hb
theorem Bl.step[?vU][?e]
 [?m4]
 (keep:∀b o,?d0->?gV->?dY->?b8->?x->?gC)
 (slot:∀b o,?d0->?u8->?dY->?b8->?x->?t5) (free:∀b o,?dY->?b8->?x->?fL)
 (there:∀b o,?dY->?b8->?oQ)
 (tups:?kX) (frzs:?rF) (tbls:?rJ)
 (ns:∀m,?qZ->h'.Ns ?fG m) [?mH] (hg:?hV g') :
 ?uA:=by
 have neL:∀b o,?kQ->?d0:=fun b o e=>qc7 (qb3 ?dZ ?hN)
 have neC:∀b o,?kQ->?rS->?dY:=fun b o e hx hb=>by
  rcases (hch b hb).1 with z | z
  . exact hx z
  . exact ?xJ ?dZ z
 have cellK:∀x c,?aU->∀v,s.heap.IsCell c v->h'.IsCell c v:=fun x c e v ⟨o,ho,hd⟩=>by
  have bV:c ∉ ch:=?oU;by_cases hc:c∈X.fs
  . obtain⟨sl,q⟩:=?xF slot;exact⟨_,q,hd⟩
  . exact⟨o,?xF keep,hd⟩
 refine⟨I.ok,?d1,hg,⟨?h8,?h8,fun b o e n hx=>?_,?rW,fun b xs e=>tups b xs (?uJ b xs e),fun b o xs e=>frzs b o xs (?tS b o xs e),fun b ps e=>?_⟩,?_,?qH,?_,?qH,?l8,hok,?fS⟩
 . exact keep b o (neL b o e) hb ?gT (?xK ?h0 hx) (?cM b o e n hx)
 . ext m9;obtain⟨sl',e2⟩:=slot b _ (neL b o e) hb ?gT e1 (?cM b o e n hx);exact⟨sl',e2⟩
 . ext hZ;exact free b o' ?gT e1 (?cM b o e n hx)
 . ext hZ;exact there b o' ?gT e1
 . obtain⟨m1,e1⟩:=?rL b ps e;obtain⟨m2,e2⟩:=tbls b _ e1;exact⟨m1++m2,by rw[e2,Array.append_assoc]⟩
 . obtain⟨m,hn,hl⟩:=I.loc;refine⟨m,ns m hn,fun i x v e1 e2 e3=>?_⟩;obtain⟨u,r,l⟩:=hl i x v e1 e2 e3;refine⟨u,r,?_⟩;rcases l with l|⟨k,c,e,z⟩
   . exact ?j l
   . exact ?y ⟨k,c,e,cellK x c e _ z⟩
 . obtain⟨v,z⟩:=?fT;exact⟨v,cellK x c e v z⟩
 . obtain⟨m,⟨o,_,_,ho,_⟩,_⟩:=I.loc;exact free _ o (?uU) ho ?aS
 . obtain⟨v,o,ho,hd⟩:=?fT;exact free c o (?oU) ho (?aQ x c e)
 . ext mC;have bV:p.1 ∉ ch:=fun z=>(hch p.1 z).2.2.2 p hp rfl;exact⟨keep p.1 p.2 ne nf bV e n,free p.1 p.2 bV e n,ne,nf,d⟩
theorem Bl.un{t':Nat}[?e](u:Un X.fs [] H H' ?o h')[?mH]:?wF H' ?g1:=by
 ext vY;obtain⟨sl,hL⟩:=u.any ho ?aS ?P
 exact ?kV (g':=s.gens) (d':=s.drawn) (ch:=[]) (fun _ z=>nomatch z) (?yH ?jL) (?yH u.slot) (fun b o _ e n=>u.free b o e n ?P) (fun b o _ e=>u.there b o e ?P) u.tups u.frzs u.tbls (fun m' hm=>by
  ext v9) hok ?bC
theorem Bl.call[?vU][?e](u:Un (?hT) ch H H' ?o h')[?mH](hg:?hV g')
 [?m4] :
 ?uA:=by
 ext vY;obtain⟨sl,hL⟩:=u.any ho ?aS ?uU
 exact ?kV (ch:=ch) hch (fun b o hL hb hc e n=>?jL b o e n (fun z=>(?jI (?nD b z)).elim hL hb) hc) (fun b o _ _ hc e n=>u.any e n hc) (fun b o hc e n=>u.free b o e n hc) (fun b o hc e=>u.there b o e hc) u.tups u.frzs u.tbls (fun m' hm=>by
  ext v9) hok hg
theorem Bl.turned{t':Nat}{it:Addr}[?e](k:∀b o,b≠it->?b8->?gC)(hn:H it=none)(hL:it≠X.env.locals)
 (h1:it∈X.ex\/?wI it) (h2:?y3 it) (h3:∀p∈?k1,p.1≠it):?oV:=by
 have nit:∀b u,?jE->b≠it:=fun b u e z=>by rw[z,hn]at e;cases e
 refine ?kV (g':=s.gens) (d':=s.drawn) (ch:=[it]) (?eU) (fun b o _ _ hc e _=>?jO) (fun b o _ _ hc e _=>⟨o.slots,?jO⟩) (fun _ _ _ _ n=>n)
  (fun b o hc e=>⟨o,?jO⟩) (fun _ _ e=>e) (fun _ _ _ e=>e) (fun b ps e=>⟨#[],by rw[e];simp⟩) (fun m hm=>?_) (fun b u e=>?_) ?bC
 . ext i4
   subst e;exact⟨h1,hL,h2,h3⟩
 . obtain⟨o,es,ep,ho,r⟩:=hm;exact⟨o,es,ep,k _ o (?g8 hL) ho,r⟩
 . refine ?y1 u (fun c v hc q=>k c v ?_ q);rcases hc with z | z
   . rw[z];exact nit b u e
   . exact nit c _ z
theorem Bl.tok[?e](t:Nat):Bl X Ac σ H { s with toks:=t }:=I.un (h':=s.heap) (t':=t) Un.refl ?aT
theorem Bl.kept{t':Nat}[?e][?w0]:?oV:=I.un (?iM k) (I.hok.kept k)
theorem Bl.laid[?b5]{o:HO}{t':Nat}[?e][?w0](hp:?oF)(new:?aP ?W X.w ?eX h' a o) :
 ?wF ?eX ?g1:=I.un (Un.laid k hp (?lF hp)) (I.hok.laid k hp new)
theorem Bl.write{x e:Addr}{o:HO}{t':Nat}[?e](mu:?sG)(he:?pF)(k:∀b u,b≠e->?pC)(zR:?mX)
 (new:?aP ?W X.w (upd H x o) h' x o):?wF (upd H x o) ?g1:=I.un (Un.write mu he k zR) (I.hok.write mu he k zR new)
theorem Bl.pins_of{uV:Bj}[?e](h:∀p∈uV,?uL):Bl X uV σ H s :=
 ⟨I.ok,?d1,?bC,?iU,?eA,?bO,?aS,?aQ,fun p hp=>?r7 (fun z=>?d2 p (qm1 _ z)) (h p),?aT,?fS⟩
theorem eN{N:?I}(hN:N.Nodup){i j:Nat}{x:Str}(a:N[i]?=?cS)(b:N[j]?=?cS):i=j:=by
 obtain⟨h1,e1⟩:=?jC a;obtain⟨h2,e2⟩:=?jC b;exact(List.getElem_inj hN).mp (e1.trans e2.symm)
theorem aB{M:Model}[?t][?Q][?c8]{v:V}[?O][?f6][?e][?hY][?c9]
 (h:∀s',?u6->(∃a,?j8 a ?o ?d3/\(a=X.env.locals\/?m1 x=?c a))->?kI) [?d5]:?rI:=by
 obtain⟨m,hn,hl⟩:=id ?eA;have hcls:(X.env.scope.kind==.class || (X.env.scope.kind==.module&&X.env.locals != X.env.globals))=false:=by rw[I.ok.kind];rfl
 have hiσ:i<σ.length:=by rw[I.len];exact(?jC hi).1
 have cne:=I.cne
 have tracked:∀[?b5]{h':Heap},(∃o,?cR a=?v/\?kJ)->?j8 a ?o h'->Q7 ?W X.w H h':=fun {a h'} ha hs b ob e=>by
  obtain⟨_,_,hfree⟩:=ha;refine ?y1 ob (fun c w' hc q=>(hs.2 c ?_).trans q);rintro rfl;rcases hc with rfl | hc
  . rw[hfree]at e;cases e
  . rw[hfree]at hc;cases hc
 rcases hx with hk | hk
 . refine wpAny_storeName_local hk hn (fun h' hn' hs=>?_) hcls;obtain⟨oL,_,_,hoL,_⟩:=id hn;refine h _ ⟨I.ok,?d1,?bC,?tJ,⟨_,hn',?r6⟩,fun y c e=>?_,?aS,?aQ,?l8,tracked ⟨oL,hoL,?aS⟩ hs,?tM⟩ ⟨_,hs,?k5⟩
   . exact ?lQ (?xK ?h0 hx)
   . ext m9;exact⟨sl,?lQ e1⟩
   . ext hZ;exact⟨o',?lQ e1⟩
   . by_cases hj:j=i
     . ext vH;exact⟨u,r,?j ⟨hk,?a6⟩⟩
     . ext v7;rcases q with⟨k,e⟩|⟨k,c,e,z⟩
       . refine ?j ⟨k,?_⟩;have:y≠x:=fun e=>hj (eN hN e1 (e▸hi));simp[this,e]
       . exact ?y ⟨k,c,e,?n6⟩
   . obtain⟨w',z⟩:=?bO y c e;exact⟨w',?n6⟩
   . ext mC;exact(?xV ne)
 . have hfn:?l2:=by
    rcases hf with z | z
    . exact z
    . rw[z]at hk;cases hk
   obtain⟨c,hc⟩:=I.ok.has x (?j hk);obtain⟨w',z⟩:=?bO x c hc;refine wpAny_storeName_cell ?cF hk hc z (fun h' hc' hs=>?_);obtain⟨oc,hoc,A52⟩:=id z;refine h ?gL ⟨I.ok,?d1,?bC,?tJ,⟨m,hn.sameBut hs (?g8 (cne x c hc)),?r6⟩,fun y c' e=>?_,?aS,?aQ,?l8,tracked ⟨oc,hoc,?aQ x c hc⟩ hs,?tM⟩ ⟨c,hs,?y hc⟩
   . exact ?iK (?xK ?h0 hx)
   . ext m9;exact⟨sl,?iK e1⟩
   . ext hZ;exact⟨o',?iK e1⟩
   . by_cases hj:j=i
     . ext vH;exact⟨u,r,?y ⟨?j hk,c,hc,hc'⟩⟩
     . ext v7;rcases q with q|⟨k,c',e,z'⟩
       . exact ?j q
       . refine ?y ⟨k,c',e,z'.sameBut hs ?_⟩;rintro rfl;exact hj (eN hN e1 (I.ok.inj _ _ _ e hc▸hi))
   . by_cases hcc:c'=c
     . subst hcc;exact⟨_,hc'⟩
     . obtain⟨w2,z2⟩:=?bO y c' e;exact⟨w2,z2.sameBut hs hcc⟩
   . ext mC;refine(?xV ?_);intro q;rw[q,hoc]at e;have q':oc=p.2:=qc6 e;exact d w' (by rw[←q'];exact A52)
theorem dP{M:Model}[?t][?Q][?c8]{v:V}[?O][?f6][?e][?hY][?c9]
 (h:∀s',?u6->?kI) [?d5]:?rI :=
 aB I hN hi hx r (fun s' I' _=>h s' I') hf
theorem Bl.call'{s':Shared}{ch:?D}[?e](ho:?oI)(u:Un (?hT) ch H H' ?o ?d3)(hok:Q7 ?W X.w H' ?d3)(hg:?u7)
 [?m4]:?rB:=by
 obtain⟨h',g',d',t',o'⟩:=s';have e:o'=s.os:=ho;subst e;exact I.call (g':=g') (t':=t') (d':=d') u hok hg hch
universe e9
noncomputable abbrev XK:=?L->OAddr->?aE
noncomputable abbrev St:=?k0
noncomputable abbrev VK:=?dX
noncomputable abbrev TE:=St->?jZ
noncomputable abbrev TT:=?wX ?rE
noncomputable abbrev TA:=?wX ?k9
structure Ends where
 nx:?z
 rt:VK
 bk:?z:=?lZ
 ct:?z:=?lZ
noncomputable abbrev TS:=Ends->?z
inductive EP[?a0](σ:St)(Q:VK)(u:Value)[?aJ]:Prop
 | mk (v:V) [?i7] [?c9] (q:?hM):?sK
inductive TP[?a0](σ:St)[?f8](b:Bool)[?aJ]:Prop
 | mk [?i7] (q:Q b H'):TP X Ac σ Q b s'
inductive AP[?a0](σ:St)(Q:?k9)[?c7][?aJ]:Prop
 | mk [?b2] [?i7] [?iH] (q:Q vs H'):AP X Ac σ Q us s'
inductive NP[?a0](N:?z)[?aJ]:Prop
 | mk [?w4] (q:?m3):?xD N
inductive HP[?a0](σ:St)(Q:?aE)[?aJ]:Prop
 | mk [?i7] (q:Q H'):?n5
inductive YP[?a0](σ:St)(u:Value)(Y:?dX)(T:Prop)(fp:?D)(s2:Shared):Prop
 | mk (x:V) (H':Hp) (i:?qA) (r:?c1) (y:Y x H') (t:T) (f:?gK):YP X Ac σ u Y T fp s2
inductive RP[?a0](Q:VK)(u:Value)[?aJ]:Prop
 | mk (v:V) [?w4] [?c9] (q:?hM):RP X Ac Q u s'
noncomputable def SP[?a0](D:Ends)(f:Flow)[?aJ]:Prop :=
 match f with
 | .next=>?xD D.nx
 | .brk=>?xD D.bk
 | .cont=>?xD D.ct
 | .ret u=>RP X Ac D.rt u s'
noncomputable def PE(X:Cx)(e:Expr)(t:TE):Prop :=
 ∀[?E] (Q:VK),?p->?dK->?w9 (?cZ) ?c4
noncomputable def PT(X:Cx)(e:Expr)(t:TT):Prop :=
 ∀[?E] [?f8],?yB (isTrue e ?f (?cZ)) TP
noncomputable def PW(X:Cx)(e:Expr)(t:TT):Prop :=
 ∀(whole:Sem ?L) [?E] [?f8],?yB (?mQ) TP
theorem PW.pt{X:Cx}[?b6]{t:TT}(h:PW X e t):PT X e t:=h _
noncomputable def PA(X:Cx)(es:?e4)(t:TA):Prop :=
 ∀(pos:Pos) [?E] (Q:?k9),?yB (spliced (?k8)) AP
noncomputable def PS(X:Cx)(st:Stmt)(t:TS):Prop :=
 ?yA exec
noncomputable def jX(X:Cx)(st:?bT)(t:TS):Prop :=
 ?yA execs
theorem Df{α:Type}{t:Sem α}{Q Q':α->?bJ}{M:Model}[?t][?Q][?b4](h:?wG M t)(hQ:∀a s,Q a s->Q' a s):?d M A t Q' E s:=qj8 h hQ fun _ _ x=>x
section
variable{X:Cx}
theorem bin{a b:Expr}{ta tb:TE}[?c5][?f3]{R:V->?dX}[?e][?vZ]
 {α:Type}{Q:α->?bJ}{f:?L->?L->Sem α}
 [?v5] :
 ?uP:=by
 ext vT;ext aG;ext v1
inductive VR(i:Nat)(σ:St)(H:Hp)(Q:VK):Prop
 | mk:∀v,(?qO)->(Q v H)->?tH
noncomputable def Ac3(i:Nat):TE:=fun σ H Q=>?tH
noncomputable def tC(v:V):TE:=fun _ H Q=>Q v H
theorem wY[?c8][?N](hN:?gO)(hv:?t3)[?f2](hcd:(x==("__classdict__":Str))=false:=by decide):?yF ?g9 (Ac3 i):=by
 ext J;obtain⟨v,e,h⟩:=h;obtain⟨m,hn,hl⟩:=I.loc;obtain⟨u,r,l⟩:=hl i x v hN e hv;have fin:EP X Ac σ Q u s:=?lG
 rcases l with⟨hk,hm⟩|⟨hk,c,hc,hcell⟩
 . exact ?lD (wpAny_loadName_local ?cF hk hn hm fin) hd
 . rcases hk with hk | hk
   . exact ?lD (wpAny_loadName_cell ?cF hk hc hcell fin) hd
   . exact ?lD (wpAny_loadName_free ?cF hk hc hcell fin hcd) hd
theorem Ak{i j pos}:?wT ?dN ?dN:=?x2 wpAny_Constant_int ⟨?bK,H,?cP,?a8,h⟩
theorem E5{b j pos}:?wT (?gH b) (?h2):=?x2 Constant_bool ⟨?h2,H,I,rfl,h⟩
theorem BP{j pos}:?wT ?bM ?w:=?x2 Constant_none ⟨?w,H,I,rfl,h⟩
theorem Np{x j pos}:?wT (?cU) (?cU):=?x2 Calls.Constant_str ⟨?cU,H,?cP,?a8,h⟩
noncomputable def Gl(X:Cx)(x:Str):Prop:=X.env.kindOf x=?c .globalImplicit
theorem Xe[?Q][?f3]{x:Str}[?O][?N][?b1][?e][?fC](hm:?eH=?r)(h:Q u s)
 [?f2]:?uB :=
 ?oK ?cF hg (Calls.loadGlobal_global (?x9 I.bk) hm h) hd
theorem L1[?Q][?f3]{x:Str}[?O][?N][?b1][?e][?vR](h:Q u s)
 [?i6] [?f2]:?uB:=by
 obtain⟨mb,h1,h2⟩:=I.mod.blt;exact ?oK ?cF hg (Calls.loadGlobal_builtin (?x9 I.bk) hm (by rw[I.ok.blt];exact h1.keeps I.bk) ((h2 x hn).trans hv) h) hd
theorem Ld{x:Str}{v:V}[?O][?N][?fC](hm:?eH=?r)[?c9][?f2]:?nB :=
 fun _ _ _ H _ I h=>Xe I hg hm ?lG hd
theorem Gh{x:Str}{v:V}[?O][?N][?vR][?c9][?i6][?f2]:?nB :=
 fun _ _ _ H _ I h=>L1 I hg hm hv ?lG hn hd
variable{a b:Expr}{ta tb:TE}[?N]
noncomputable def PC(X:Cx)(op:CmpOp)(a b:Expr)(t:TE):Prop :=
 ∀[?E] (Q:VK),?p->?dK →
   ?w9 (?lO) (?yC (?yJ (?a2 op v u) ?c4))
theorem OF(b:Expr){op:CmpOp}(h:?n8)(h2:?p7):?hL:=by
 ext vB
 ext vA
 cases b<;>simp[behindInMarks,e1,e2]
inductive ItB[?f8](x:V)(H1:Hp):Prop
 | mk:∀c,?h3->(Q c H1)->?nA
noncomputable def tB(t:TE):TT:=?wC t ?nA
theorem Az1{op:CmpOp}{t:TE}(h:PC X op a b t)(h1:?hL:=by first | exact OF _ ?cT ?cT | rfl):?xA PT (tB t):=by
 intro Ac s σ H Q I hw;refine ?t2 (Df (?wR h hw) fun v s1 h1=>Df h1 fun u s2 h2=>Df h2 fun c s3 _z=>?_) h1;ext aG;ext vG
theorem D6[?b6]{t:TE}(h:?yF e t)(he:∀whole,?mQ=(do let v ←whole;?jP e.pos;?eY [v] (truthy v)):=by intro _;rfl):PT X e (tB t):=by
 intro Ac s σ H Q I hw;refine isTrue_plain (Df (?wR h hw) ?e9) (he _);ext aG;ext vG
variable{tA tB':TT}{rest:?e4}
noncomputable def Ax7(t u:TT):TT:=fun σ H Q=>t σ H fun c H1=>if ?dO then ?tV else Q ?c0 H1
noncomputable def tOr(t u:TT):TT:=fun σ H Q=>t σ H fun c H1=>if ?dO then Q true H1 else ?tV
noncomputable def Ax4(t:TT):TT:=fun σ H Q=>t σ H ?sF
theorem P9[?fA]:PW X (?xL [a]) tA:=by
 intro wh Ac s σ H Q I h;refine isTrue_and (Df (ha Ac s σ H Q I h) fun c s1 e=>?_);cases c with
 | true=>exact isTrue_and_nil e
 | false=>exact e
theorem Nm[?fA]:PW X (?xU [a]) tA:=by
 intro wh Ac s σ H Q I h;refine isTrue_or (Df (ha Ac s σ H Q I h) fun c s1 e=>?_);cases c with
 | false=>exact isTrue_or_nil e
 | true=>exact e
theorem Up[?fA](hb:PW X (?xL (b::rest)) tB'):PW X (?xL (a::b::rest)) (Ax7 tA tB'):=by
 intro wh Ac s σ H Q I h;refine isTrue_and (Df (ha Ac s σ H _ I h) fun c s1 _z=>?_);obtain⟨H1,I1,q1⟩:=_z;cases c with
 | true=>exact ?oB
 | false=>exact ?gY
theorem Ml[?fA](hb:PW X (?xU (b::rest)) tB'):PW X (?xU (a::b::rest)) (tOr tA tB'):=by
 intro wh Ac s σ H Q I h;refine isTrue_or (Df (ha Ac s σ H _ I h) fun c s1 _z=>?_);obtain⟨H1,I1,q1⟩:=_z;cases c with
 | true=>exact ?gY
 | false=>exact ?oB
theorem Eh[?fA]:PT X (?k4 .Not a pos) (Ax4 tA):=by
 ext J;exact isTrue_not (Df (ha Ac s σ H (?sF) I h) fun c s1 ?gY=>?gY)
inductive QG(tb:TE)(σ:St)[?f9]:Prop
 | mk:∀c,?h3->(if ?dO then ?lH else Q (?gZ) H1)->?tL
noncomputable def Ad3(ta tb:TE):TE:=?wC ta ?tL
inductive vS(tb:TE)(σ:St)[?f9]:Prop
 | mk:∀c,?h3->(if ?dO then Q (?tQ) H1 else ?lH)->?qT
noncomputable def Ax3(ta tb:TE):TE:=?wC ta ?qT
inductive qF[?f9]:Prop
 | mk:∀c,?h3->(Q (?o1) H1)->?oP
noncomputable def Ac6(ta:TE):TE:=?wC ta ?oP
theorem Nq{op}{t:TE}(h:?yF a t):?yF (?Z op [a] pos) t:=fun Ac s σ H Q I hw=>BoolOp_one (h Ac s σ H Q I hw)
theorem Ly[?iG](hb:?yF (?xL (b::rest)) tb):?yF (?xL (a::b::rest)) (Ad3 ta tb):=by
 intro Ac s σ H Q I h;refine BoolOp_and (Df (ha Ac s σ H _ I h) fun v s1 _z=>?_);obtain⟨x,H1,I1,r1,q1⟩:=_z;obtain⟨c,rfl,q1⟩:=q1;cases r1;refine qj4 ?_;cases c with
 | true=>ext mD
 | false=>exact(?y2 ?gZ)
theorem Af5[?iG](hb:?yF (?xU (b::rest)) tb):?yF (?xU (a::b::rest)) (Ax3 ta tb):=by
 intro Ac s σ H Q I h;refine BoolOp_or (Df (ha Ac s σ H _ I h) fun v s1 _z=>?_);obtain⟨x,H1,I1,r1,q1⟩:=_z;obtain⟨c,rfl,q1⟩:=q1;cases r1;refine qj4 ?_;cases c with
 | false=>ext mD
 | true=>exact(?y2 ?tQ)
theorem nV[?iG]:?yF (?k4 .Not a pos) (Ac6 ta):=by
 ext J;refine ?tZ (?p5);ext aG;obtain⟨c,rfl,q1⟩:=q1;cases r1;exact not_of (qj4 (?y2 ?o1))
noncomputable def tIf(t:TT)(ta tb:TE):TE:=fun σ H Q=>t σ H fun c H1=>if ?dO then ta σ H1 Q else ?lH
theorem Yi{c:Expr}(hc:PT X c tA)[?c5]:?yF (.IfExp c a b pos) (tIf tA ta tb):=by
 intro Ac s σ H Q I h;refine wpAny_IfExp (Df (hc Ac s σ H _ I h) fun d s1 _z=>?_);obtain⟨H1,I1,q1⟩:=_z;cases d with
 | true=>exact ?wH ha Q
 | false=>ext mD
universe e9
noncomputable def SqL[?l](H:Hp)[?aL][?cA]:Prop :=
 Rd H a ?fD ∨
  ∃(o:Obj) (its:?b7) (n:Nat),?s0/\o.cls=?rQ/\?u5
noncomputable def Dl[?l](H:Hp)[?aL][?cA]:Prop :=
 Rd H a ?g7 ∨
  ∃(o:Obj) (its:?b7) (n:Nat),?s0/\?pZ/\?u5
noncomputable def Bb3:?L->?eM
 | ?bM=>?c ?w
 | ?gH b=>?c (?h2)
 | ?i i _=>?c ?dN
 | .str x _=>?c (?cU)
 | .bytes b _=>?c (.byt b)
 | .float b _=>?c (.flt b)
 | ?aN=>?c ?eI
 | ?aY n=>?c (.ty n)
 | _=>none
theorem RelV.abs{x:V}[?O](r:?c1):Bb3 u=?cS:=by
 cases x with
 | non=>cases r;rfl
 | bl _=>cases r;rfl
 | int _=>ext dA;rfl
 | str _=>ext dA;rfl
 | byt _=>ext dA;rfl
 | flt _=>ext dA;rfl
 | ref _=>cases r;rfl
 | ty _=>cases r;rfl
theorem RelV.inj{x y:V}[?O](r:?c1)(q:?fK):x=y:=qc6 (r.abs.symm.trans q.abs)
theorem Vals.inj:∀{xs ys:?q}[?M],?b9->?G ys us->xs=ys
 | _,_,_,?H,?H=>rfl
 | _,_,_,?eT,?K r' t'=>by rw[?jU,Vals.inj t t']
section
variable{X:Cx}[?aH][?b5]{xs ys:?q}
theorem SqL.of[?a1](h:H a=?c ?fD):?eP:=?j (?j h)
theorem Dl.of[?a1](h:H a=?gJ):?cD:=?j (?j h)
theorem Bl.list[?e](h:?rK):∃its:?u,?fZ/\PlainL ?o a ?bU/\?cJ:=by
 rcases h with h|⟨o,its,n,hk,hc,hd,hs,hz,r⟩
 . obtain⟨z,its,n,r,e⟩:=?nT;exact⟨its,r,⟨_,n,e,rfl,rfl,rfl⟩,z⟩
 . refine⟨?kP,r,⟨o,n,?tD,hc,hd,?pJ⟩,?_⟩;have e:=r.length;simp only[qu9]at e;omega
theorem Bl.tuple[?e](h:?tF):∃its:?u,?fZ/\?hF ?o a ?bU/\?cJ:=by
 rcases h with h|⟨o,its,n,hk,hc,_,hs,hz,r⟩
 . obtain⟨z,its,r,p⟩:=?nT;exact⟨its,r,p.tup,z⟩
 . refine⟨?kP,r,⟨o,?tD,hc,n,?pJ⟩,?_⟩;have e:=r.length;simp only[qu9]at e;omega
theorem Bl.list_inj[?e](h:?rK)(h':SqL X.K H a ys):xs=ys:=by
 obtain⟨its,r,⟨o,n,e,_,_,d⟩,_⟩:=?g3 h;obtain⟨its',r',⟨o',n',e',_,_,d'⟩,_⟩:=?g3 h';ext v2
 subst this;exact ?jU
theorem Bl.tuple_inj[?e](h:?tF)(h':Dl X.K H a ys):xs=ys:=by
 obtain⟨its,r,⟨o,e,_,n,d⟩,_⟩:=?jX h;obtain⟨its',r',⟨o',e',_,n',d'⟩,_⟩:=?jX h';ext v2
 subst this;exact ?jU
universe e9
noncomputable abbrev Cx.wish(X:Cx)[?f4]:Cx:={ X with xe:=E }
noncomputable abbrev Cx.nox(X:Cx):Cx:=X.wish ?lZ
theorem Cx.Ok.wish{X:Cx}(ok:X.Ok)[?f4]:?uT :=
 ?oS
theorem Cx.Ok.unwish{X:Cx}[?Q](ok:?uT):X.Ok :=
 ?oS
section
variable{X:Cx}[?aH][?Q]
theorem Bl.wish[?e][?f4]:?n1:=⟨I.ok.wish E,?d1,?bC,?iU,?eA,?bO,?aS,?aQ,?d2,?aT,?fS⟩
theorem Bl.unwish(I:?n1):?p:=⟨I.ok.unwish,?d1,?bC,?iU,?eA,?bO,?aS,?aQ,?d2,?aT,?fS⟩
theorem SP.unwish{D:Ends}{f:Flow}{s':Shared}(h:SP (X.wish E) Ac D f s'):SP X Ac D f s':=by
 cases f with
 | next=>ext m7
 | brk=>ext m7
 | cont=>ext m7
 | ret u=>obtain⟨v,σ',H',I,r,q⟩:=h;exact⟨v,σ',H',?mV,r,q⟩
theorem jX.nox{st:?bT}{t:TS}(h:jX X.nox st t):jX X st t:=fun Ac s σ H D I hw =>
 qj8 (h Ac s σ H D (I.wish _) hw) (fun _ _ q=>q.unwish) fun _ _ z=>?e2 z
universe e9
section
variable{X:Cx}{st:Stmt}{rest:?bT}{t u:TS}[?b6]{te:TE}[?N]
noncomputable def Ac7:TS:=fun D σ H=>?bR
noncomputable def Ar(t u:TS):TS:=fun D σ H=>t { D with nx:=u D } σ H
theorem Bo:jX X [] Ac7:=fun _ _ σ H _ I h=>qv1 ?q2
theorem Af(h1:?qK)(h2:jX X rest u):jX X (st::rest) (Ar t u):=by
 intro Ac s σ H D I h;refine wpAny_execs_cons (Df (h1 Ac s σ H { D with nx:=u D } I h) fun f s1 q=>?_);cases f with
 | next =>
   obtain⟨σ',H',I',q⟩:=q;exact h2 Ac s1 σ' H' D I' q
 | ret v=>exact q
 | brk=>exact q
 | cont=>exact q
theorem Ai(h1:?qK):jX X [st] t:=by
 intro Ac s σ H D I h;refine wpAny_execs_cons (Df (h1 Ac s σ H D I h) fun f s1 q=>?_);cases f with
 | next=>exact qv1 q
 | ret v=>exact q
 | brk=>exact q
 | cont=>exact q
theorem Bl.quiet[?aH][?e]:interactive ?f=false:=by simp[interactive,I.ok.kind]
noncomputable def Ac9(te:TE):TS:=fun D σ H=>te σ H fun _ H1=>?pP
theorem Bx[?dD](hs:?jY e ?cK ?gE ?f=?gN:=by rfl):PS X (.Expr e pos) (Ac9 te):=by
 ext d9;exact wpAny_Expr_any (Df ?cQ fun v s1 ?dM=>⟨σ,H1,I1,q1⟩) I.quiet hs
noncomputable def Ax2(te:TE):TS:=fun D σ H=>te σ H D.rt
theorem Bb[?dD]:PS X (.Return (?c e) pos) (Ax2 te):=by
 ext d9;exact wpAny_Return_some (Df ?cQ fun v s1 ?dM=>⟨x,σ,H1,I1,r1,q1⟩)
noncomputable def RA(c:TT)(t u:TS):TS:=fun D σ H=>c σ H fun b H1=>if b=true then t D σ H1 else u D σ H1
theorem B9{c:Expr}{a b:?bT}{tc:TT}(hc:?tG)(ha:jX X a t)(hb:jX X b u):PS X (.If c a b pos) (RA tc t u):=by
 intro Ac s σ H D I h;refine wpAny_If (Df (hc Ac s σ H _ I h) fun d s1 _z=>?_);obtain⟨H1,I1,q1⟩:=_z;cases d with
 | true=>exact ?wH ha D
 | false=>exact ?wH hb D
noncomputable def WK:TS:=fun _ _ _=>False
theorem S5:PS X st WK:=fun _ _ _ _ _ _ h=>h.elim
universe e9
noncomputable abbrev TG:=V->?wX ?z
noncomputable abbrev QU:=?q->?wX ?z
noncomputable def PG(X:Cx)(target:Expr)(t:TG):Prop :=
 ∀[?E] (v:V) (u:Value) (Q:?z),?p->?b0->t v σ H Q →
   ?w9 (?hQ target ?f u) (fun _ s'=>NP X Ac Q s')
noncomputable def PGs(X:Cx)(ts:?e4)(t:QU):Prop :=
 ∀[?E] [?b2] [?c7] (Q:?z),?p->?lE->t vs σ H Q →
   ?d ?g X.A (assignInOrder ((?gP ts ?f).map (·.2)) us) (fun _ s'=>?xD Q) ?h s
noncomputable abbrev yZ:=V->V->V->Hp->?yI (?aE)
noncomputable def Ao5(X:Cx)(t:yZ):Prop :=
 ∀[?E] (o i v:V) (ov iv u:Value) (Q:?aE),?p->?aA o ov->?aA i iv->?b0->t o i v H Q →
   ?w9 (setItem ov iv u) (fun _ s'=>?n5)
section
variable{X:Cx}[?N]
noncomputable def AS(i:Nat):TG:=fun v σ H Q=>Q (σ.set i ?dR) H
theorem rZ[?c8][?hY][?d5]:?sJ:=by
 intro Ac s σ H v u Q I r h;exact wpAny_assign_Name (dP I hN hi hx r (fun s' I'=>⟨_,H,I',h⟩) hf)
theorem Ap[?c8](hN:X.N.Nodup)[?v8][?d5]:?sJ:=rZ hN hi hx hf
structure Ap4[?b2][?mF]:Prop where
 mk::(left:vs=[]) (right:Q σ H)
noncomputable def A99:QU:=fun vs σ H Q=>Ap4 vs σ H Q
inductive qO(t:TG)(u:QU)[?b2][?mF]:Prop
 | mk:∀v r,(vs=v::r)->(t v σ H fun σ' H'=>u r σ' H' Q)->?sU
noncomputable def Am0(t:TG)(u:QU):QU:=fun vs σ H Q=>?sU
theorem Dx:PGs X [] A99:=by
 intro Ac s σ H vs us Q I r h;obtain⟨e,h⟩:=h;subst e;cases r;exact assignInOrder_nil ?q2
theorem Bm[?b6][?dE]{t:TG}{u:QU}(h1:PG X e t)(h2:PGs X es u)
 (hs:(?gP ?a9 ?f).map (·.2)=?hQ e ?f::(?kT).map (·.2):=by rfl):PGs X ?a9 (Am0 t u):=by
 intro Ac s σ H vs us Q I r h;obtain⟨v,vr,e1,h⟩:=h;subst e1;cases r with
 | cons r rr =>
   rw[hs];refine assignInOrder_cons (Df (h1 Ac s σ H _ _ _ I r h) fun _ s1 _z=>?_);obtain⟨σ1,H1,I1,q1⟩:=_z;exact h2 Ac s1 σ1 H1 _ _ Q I1 rr q1
inductive VY[?l](n:Nat)(t:QU)(v:V)[?mF]:Prop
 | mk:∀a xs,(v=?aN)->(?cD)->(xs.length=n)->(t xs σ H Q)->?sR
noncomputable def Al9[?l](n:Nat)(t:QU):TG:=fun v σ H Q=>?sR
theorem wX[?dE]{k:Nat}{t:QU}{n:Nat}[?iD](h:PGs X es t)
 (hn:(?kT).length=n:=by rfl) (hst:(?kT).findIdx? (·.1)=none:=by rfl):PG X (.Tuple es k pos) (Al9 X.K n t):=by
 intro Ac s σ H v u Q I r hw;obtain⟨a,xs,e1,hq,hl,hw⟩:=hw;subst e1;cases r;obtain⟨its,rv,ht,hz⟩:=?k2;refine assign_Tuple_tuple ?bQ ht (by simp[hn,←hl,rv.length]) hst fun h' hx=>?_;have I1:?oY:=?iY (t':=s.toks) fun b o e=>hx b o (qc7 ?dZ) e;exact h Ac _ σ H xs _ Q I1 (by simpa using rv) hw
noncomputable def A98(to ti:TE)(t:yZ):TG:=fun v σ H Q=>to σ H fun o H1=>ti σ H1 fun i H2=>t o i v H2 fun H3=>Q σ H3
theorem Ko{o i:Expr}{to ti:TE}{t:yZ}(ho:?yF o to)(hi:?yF i ti)(hs:Ao5 X t)
 (ha:∀v,?hQ (.Subscript o i pos) ?f v=(do
   let ov ←?eY [v] (?lY)
   let iv ←?eY [v,ov] (?V i ?f)
   ?jP pos
   ?eY ?uN (setItem ov iv v)
   release ?uN []):=by intro _;rfl):PG X (.Subscript o i pos) (A98 to ti t):=by
 intro Ac s σ H v u Q I r h;rw[ha];refine qa3 (qm6 (Df (?wR ho h) fun ov s1 _z=>?_));ext aG;refine qa3 (qm6 (Df (?wH hi _) fun iv s2 _z=>?_));obtain⟨y,H2,I2,r2,q2⟩:=_z;refine qa3 (wpAny_standAt (qa3 (qm6 (Df (hs Ac s2 σ H2 x y v ov iv u _ I2 r1 r2 r q2) fun _ s3 _z=>?_))));obtain⟨H3,I3,q3⟩:=_z;exact wpAny_release ⟨σ,H3,I3,q3⟩
noncomputable def rC(te:TE)(g:TG):TS:=fun D σ H=>te σ H fun x H1=>g x σ H1 D.nx
theorem Kn{tg e:Expr}{te:TE}{g:TG}[?dD](hg:?s6)(hs:swapsWithSole [tg] e ?gE ?f=?gN:=by rfl)(hw:swappedStores [tg] e ?f=?bN ?cK:=by rfl)
 (h1:(?gP [tg] ?f).map (·.2)=[?hQ tg ?f]:=by rfl):PS X (?kR [tg] e pos) (rC te g):=by
 ext d9;refine wpAny_Assign_stores (Df ?cQ ?e9) hs hw;ext aG;rw[h1];exact Df (hg Ac s1 σ H1 x v _ I1 r1 q1) fun _ s2 q=>q
theorem wV[?c8][?b6]{te:TE}{pos':Pos}[?hY][?dD][?vF][?d5] :
 ?mW:=by
 ext d9;refine wpAny_Assign_Name (Df ?cQ ?e9) hs;obtain⟨y,H1,I1,r1,q1⟩:=_z;exact dP I1 hN hi hx r1 (fun s2 I2=>⟨_,H1,I2,q1⟩) hf
theorem Av[?c8][?b6]{te:TE}{pos':Pos}(hN:X.N.Nodup)[?dD][?v8][?vF][?d5]:?mW:=wV hN hi hx he hs hf
universe e9
section
variable{X:Cx}[?N]
noncomputable def WJ(c:TT)(tb:TS):TS:=fun D σ H=>∃W:?kY,(∃m,?qD)/\∀m σ H,?qD →
 c σ H fun b H1=>if b=true then ∃N:?z,(∀σ' H',?m3->∃m',m'<m/\W m' σ' H')/\tb ?nJ σ H1 else ?pP
theorem S4{c:Expr}{body:?bT}{tc:TT}{tb:TS}[?w1](hc:?tG)(hb:?uG):PS X (.While c body [] pos) (WJ tc tb):=by
 intro Ac s σ H D I h;obtain⟨W,⟨m0,w0⟩,turn⟩:=h;refine wpAny_While (codeAny_whileLoop (fun n s'=>∃σ' H',Bl X Ac σ' H' s'/\W n σ' H') ?_ m0 ⟨σ,H,I,w0⟩);rintro n s1 ⟨σ1,H1,I1,w1⟩;refine qm2 hp (Df (hc Ac s1 σ1 H1 _ I1 (turn n σ1 H1 w1)) fun b s2 _z=>?_);obtain⟨H2,I2,q2⟩:=_z;cases b with
 | true =>
   obtain⟨N,hN,q2⟩:=q2;rw[if_pos rfl];refine qm2 hp (Df (hb Ac s2 σ1 H2 _ I2 q2) fun f s3 q3=>?_);cases f with
   | next =>
     ext v6
   | cont =>
     ext v6
   | brk=>exact q3
   | ret v=>exact q3
 | false =>
   rw[?A qd3];exact qv1 ⟨σ1,H2,I2,q2⟩
universe e9
structure It where
 go:?p3
 yld:Nat->Hp->?dX
 stop:?p3
noncomputable def Qs[?a0](H:Hp)(b:Addr):Prop :=
 ?x/\?d0/\?gV/\(b∈X.ex\/?wI b)/\?q3
theorem Bl.fpOk{X:Cx}{Ac:Bj}{σ:St}{H H':Hp}[?b4]{b:Addr}[?e](hb:s.heap.objs.size<=b)(hn:?fL):?s9:=by
 refine⟨hn,qk0 (qb3 I.lt hb),I.nofs hb,?y (qa6 I.sz hb),fun x c e z=>?_,fun p hp z=>?_⟩
 . obtain⟨v,q⟩:=?fT;exact ?xJ q.lt (by rw[z];exact hb)
 . exact ?xJ (qb2 (?qV).1) (by rw[z];exact hb)
structure Vo[?c6][?l](tg:Expr)(J:It)(fp:?D)(it:Addr)(tn:?pO):Prop where
 mem:it∈fp
 obj:∀i h,tn i h->∀b∈fp,∃o,?aW/\?u3
 keep:∀i h h',tn i h->(∀b∈fp,∀o,?aW->?gC)->tn i h'
 item:∀(X:Cx),?mO->X.w=w->X.K=K->?fJ->∀(i:Nat) [?E] [?f4],?p->(?iS)->?lC->?qJ →
  ?d ?d4 X.A (pyNext ?cV) (fun r s1=>∃u,r=?r ∧
   ?d ?d4 X.A (letOwnedTupleGo tg ?cV u) (fun _ s2=>YP X Ac σ u (J.yld i H) (tn ?eW s2.heap) fp s2) E s1) E s
 done:∀(X:Cx),?mO->X.w=w->X.K=K->?fJ->∀(i:Nat) [?E] [?f4],?p->(?iS)->?lC->?uK →
  ?d ?d4 X.A (pyNext ?cV) (fun r s1=>r=none/\?wF H s1) E s
 self:∀[?dF] (i:Nat) [?f0],?lC->Q ?cV s->?wG ?d4 (?lW ?cV)
noncomputable abbrev TI:=?wX ?j4
noncomputable def PIE[?a0](σ:St)(tg:Expr)[?dB](itv:Value)(s2:Shared):Prop :=
 ∃(it:Addr) (fp:?D) (tn:?pO) (J:It) (H':Hp),itv=?k it/\?qA/\Vo ?W X.w X.K tg J fp it tn/\tn 0 s2.heap/\(?p8)/\R J H'
noncomputable def PI(X:Cx)(tg iter:Expr)(wi:TI):Prop :=
 ∀[?E] [?dB],?p->wi σ H R →
   ?w9 (?V iter ?f) (fun v s1=>?d ?g X.A (?lW v) (PIE X Ac σ tg R) ?h s1)
theorem EY{M:Model}[?t][?Q][?b4]{tg:Expr}{it:Addr}[?O]{o:Obj}{n:String}{vs:?b7}[?f6](ho:?cR it=?v)(hc:o.cls=?aY n)(hd:o.data=?dI vs)
 (hn:?wA n=false) (hQ:Q () s):?wG M (letOwnedTupleGo tg ?cV u):=by
 unfold letOwnedTupleGo
 cases tg<;>first
  | exact ?kK
  | (cases u<;>first
      | exact ?kK
      | (refine qa3 (wpAny_load ho ?_)
         rw[hc,hd];show ?d M A (if (?wA n&&vs[0]?==?c (rawInt _))=true then _ else _) Q E s;rw[?A (by intro h;rw[hn,Bool.false_and]at h;cases h)];exact ?kK))
noncomputable def zE[?l][?aL]:It :=
 ⟨fun i H=>∃xs x,?eP/\?cL,?xX ?eP,fun i H=>∃xs,?eP/\?sQ⟩
noncomputable def zD[?l][?aL]:It :=
 ⟨fun i H=>∃xs x,?cD/\?cL,?xX ?cD,fun i H=>∃xs,?cD/\?sQ⟩
noncomputable def uJ(lo:Int)(n:Nat):It:=⟨fun i _=>i<n,fun i H x H'=>H'=H/\x=?iX,fun i _=>n<=i⟩
theorem KI[?aI][?a1]{tg:Expr}(a it:Addr):?xH ?eN h.IsListIter where
 mem:=?a6
 obj:=fun i h st b hb=>by
  ext i4
  ext vC
 keep:=?rP
 item:=by
  ext d6;obtain⟨xs,x,hq,hx⟩:=hg;obtain⟨its,rv,p,hz⟩:=?g3 hq;obtain⟨u,hu,ru⟩:=?s7;ext d7;refine ?yG wpAny_pyNext_list_item ?kC;ext uY;exact⟨u,rfl,?wM I.list_inj⟩
 done:=by
  ext d6;obtain⟨xs,hq,hx⟩:=hg;obtain⟨its,rv,p,hz⟩:=?g3 hq;ext d7;have hl:=rv.length;exact wpAny_pyNext_list_end ?bQ st ?kC (by simp;omega) ?jR
 self:=?x6 wpAny_pyIter_listiter
theorem GA[?aI][?a1]{tg:Expr}(a it:Addr):?xH ?e6 h.IsTupleIter where
 mem:=?a6
 obj:=fun i h st b hb=>by
  ext i4
  ext vC
 keep:=?rP
 item:=by
  ext d6;obtain⟨xs,x,hq,hx⟩:=hg;obtain⟨its,rv,p,hz⟩:=?k2;obtain⟨u,hu,ru⟩:=?s7;ext d7;refine ?yG wpAny_pyNext_tuple_item (?xR s.heap.IsTuple);ext uY;exact⟨u,rfl,?wM I.tuple_inj⟩
 done:=by
  ext d6;obtain⟨xs,hq,hx⟩:=hg;obtain⟨its,rv,p,hz⟩:=?k2;ext d7;have hl:=rv.length;exact wpAny_pyNext_tuple_end ?bQ st (?xR s.heap.IsTuple) (by simp;omega) ?jR
 self:=?x6 wpAny_pyIter_tupleiter
theorem gB[?aI][?a1]{tg:Expr}(it:Addr)(lo:Int)(n:Nat):Vo P w K tg (?h9) [it] it (fun i h=>?nO h it (lo+(i:Nat)*1) (?aV-(i:Nat)) 1) where
 mem:=?a6
 obj:=fun i h st b hb=>by
  ext i4
  subst e
  exact⟨_,st,fun v z=>by
   have z':Data.fields _=Data.cell v:=z;cases z'⟩
 keep:=fun i h h' st k=>k it ?P _ st
 item:=by
  ext d6;ext d7;have W:=Walks.range (prog:=X.prog) (w:=X.w) ?bQ it lo 1 n;refine W.item i s _ _ hg st fun v h' tk hv st' kk=>?_;obtain⟨t,rfl⟩:=hv;have I1:?wF H ?oC:=?kS (fun b o hb e=>kk b o (?g2) e) f0 f1 f3 f4 f5;refine⟨_,rfl,EY (s:=?oC) (n:="range_iterator") st' rfl rfl ?cT ⟨?iX,H,I1,⟨t,?_⟩,?pK,st',?lN⟩⟩;rw[qn1]
 done:=by
  ext d6;ext d7;exact wpAny_pyNext_range_end ?bQ st (by have:n<=i:=hg;omega) ?jR
 self:=?x6 wpAny_pyIter_rangeiter
section
variable{X:Cx}{tg:Expr}
inductive qM[?l][?dB](x:V)(H1:Hp):Prop
 | mk:∀a,?eO->((∃xs,SqL K H1 a xs))->(R (?eN) H1)->?oJ
noncomputable def vJ[?l](tl:TE):TI:=?y0 ?oJ
inductive vY[?l][?dB](x:V)(H1:Hp):Prop
 | mk:∀a,?eO->((∃xs,Dl K H1 a xs))->(R (?e6) H1)->?q6
noncomputable def Aj1[?l](tl:TE):TI:=?y0 ?q6
theorem RX[?w8]:PI X tg l (vJ X.K tl):=by
 ext vD;ext aG;ext vM;obtain⟨its,rv,p,hz⟩:=I1.list hq;refine qs9 ?kC ?_;refine(?xB KI);ext vW
 ext m8
theorem WW[?w8]:PI X tg l (Aj1 X.K tl):=by
 ext vD;ext aG;ext vM;obtain⟨its,rv,p,hz⟩:=I1.tuple hq;refine qm0 (?xR s1.heap.IsTuple) ?_;refine(?xB GA);ext vW
 ext m8
theorem EA[?aH]{R:?j4}[?Q]{lo hi:Int}{t u v:Tok}{tk:Nat}[?e](h1:-(?aB)<=lo)(h2:lo<?aB)(h3:-(?aB)<=hi)(h4:hi<?aB)
 (q:R (uJ lo ?fV) H):?d ?g X.A (?lW ?sX) (PIE X Ac σ tg R) E ?t1:=by
 refine wpAny_pyIter_range (IsRange.new ..) (small_one h1 h2 h3 h4) ?_;have I1:?wF H ?t1:=?iY ?jV
 refine⟨?jF,[?jF],_,_,H,rfl,
  I1.kept (t':=tk) ?jV,gB _ lo ?fV,?_,?eU,q⟩
 . have e1:?mR=lo:=?a6
   have e2:((?fV:Nat):Int)-?jA=Builtin.Range.rangeSize lo hi 1:=by rw[rangeSize_one];split<;>omega
   show ?nO _ _ (?mR) (((?fV:Nat):Int)-?jA) 1;rw[e1,e2];exact ?g5
 . have e:b=?jF:=?g2
   ext m8
inductive QL[?dB][?b2](H1:Hp):Prop
 | mk:∀j:Int,(vs=[?i j])->(-(?aB)<=j)->(j<?aB)->(R (uJ 0 j.toNat) H1)->?uH
noncomputable def Aj3(ta:TA):TI:=?xW ?uH
inductive qL[?dB][?b2](H1:Hp):Prop
 | mk:∀i j:Int,(vs=?j5)->((-(?aB)<=i/\i<?aB/\-(?aB)<=j/\j<?aB))->(R (uJ i (j-i).toNat) H1)->?pI
noncomputable def Aj2(ta:TA):TI:=?xW ?pI
theorem Ci{a:Expr}[?vO](ha:PA X [a] ta)(hs:?bI [a] ?f=[?q4]:=by rfl):PI X tg (?wS ?e8 [a]) (Aj3 ta):=by
 intro Ac s σ H R I h;refine Call_ (L1 I hg hm boot_range (qg5 (Df (ha pos Ac s σ H _ I h) fun us s1 _z=>?_) hs rfl));obtain⟨vs,H1,I1,r1,q1⟩:=_z;obtain⟨j,e,q1,q2,q⟩:=q1;subst e;cases r1 with
 | cons r rr =>
   cases rr;ext dA;exact call_range_1 (EA I1 O9m O9m q1 q2 (by simpa using q))
theorem aI{a b:Expr}[?vO](ha:PA X [a,b] ta)(hs:?bI [a,b] ?f=[?q4,?mT]:=by rfl)(hs2:?bI [b] ?f=[?mT]:=by rfl) :
 PI X tg (?wS ?e8 [a,b]) (Aj2 ta):=by
 intro Ac s σ H R I h;refine Call_ (L1 I hg hm boot_range (qg5 (Df (ha pos Ac s σ H _ I h) fun us s1 ⟨vs,H1,I1,r1,q1⟩=>?_) (by rw[hs,hs2]) (by rw[hs2];rfl)));obtain⟨i,j,e,⟨q1,q2,q3,q4⟩,q⟩:=q1;subst e;cases r1 with
 | cons r rr =>
   cases rr with
   | cons r' rr =>
     cases rr;ext dA;obtain⟨t',rfl⟩:=r';exact call_range_2 (EA I1 q1 q2 q3 q4 q)
noncomputable def Ax6(wi:TI)(g:TG)(tb:TS):TS:=fun D σ H=>wi σ H fun J H1=>∃W:?h7,(∃m,W 0 m σ H1)/\∀i m σ H,?fP →
 (?uK/\?bR)\/(?qJ/\∃N:?z,?hK/\∀x H',J.yld i H x H'->?fE)
noncomputable def Yh(fp:?D)[?aM]:Bj:=fp.filterMap fun b=>(?gA).map fun o=>?fM
theorem Nt{fp:?D}{h:Heap}[?iF](hb:b∈fp)(e:?aW):?fM∈Yh fp h:=List.mem_filterMap.mpr ⟨b,hb,by rw[e];rfl⟩
theorem lF{fp:?D}{h:Heap}{p:?pU}(hp:p∈Yh fp h):p.1∈fp/\?dU p.1=?c p.2:=by
 obtain⟨b,hb,e⟩:=List.mem_filterMap.mp hp;cases q:h.get? b with
 | none=>rw[q]at e;cases e
 | some o =>
   rw[q]at e;have e':?fM=p:=qc6 e;subst e';exact⟨hb,q⟩
theorem Bl.pinned[?aH]{fp:?D}[?e](hf:?iS)(ho:∀b∈fp,∃o,?b8/\?u3):Bl X (Ac++Yh fp ?o) σ H s :=
 ?nE fun p hp=>?r7 (fun z=>?d2 p (qf9 _ z)) fun z=>by
  obtain⟨hb,e⟩:=lF z;obtain⟨f0,f1,f2,_⟩:=hf p.1 hb;obtain⟨o,e',d⟩:=ho p.1 hb;rw[e]at e';cases e';exact⟨e,f0,f1,f2,d⟩
theorem Bl.unpinned{Ac pl:Bj}{σ:St}{H:Hp}[?b4](I:Bl X (Ac++pl) σ H s):?p:=?nE fun p hp=>?d2 p (qf9 _ (qm1 _ hp))
theorem B8{iter:Expr}{body:?bT}{wi:TI}{g:TG}{tb:TS}[?N][?w1][?iD](hi:PI X tg iter wi)(hg:?s6)(hb:?uG)
 (hs:∀x,foldedSetIterable iter ?f x=?bN x:=by intro _;rfl):PS X (.For tg iter body [] pos) (Ax6 wi g tb):=by
 ext d9;refine wpAny_For (Df (?wR hi h) fun v s1 h1=>Df h1 fun itv s2 h2=>?_) hs;obtain⟨it,fp,tn,J,H2,e,I2,T,st2,f2,W,⟨m0,w0⟩,turn⟩:=h2;subst e;have gD:∀{H':Hp},(?gK)->?p8:=fun hn b hb=>⟨hn b hb,(f2 b hb).2⟩
 refine codeAny_forLoop_any (fun n s'=>∃i σ' H',?tA/\tn i ?d3/\(?gK)/\W i n σ' H') ?_ m0 ⟨0,σ,H2,I2,st2,fun b hb=>(f2 b hb).1,w0⟩;rintro n s3 ⟨i,σ3,H3,I3,st3,qS,w3⟩;rcases turn i n σ3 H3 w3 with⟨stop,qn⟩|⟨go,N,hN,step⟩
 . refine qm2 hp (Df (T.done X rfl rfl rfl hc i Ac s3 σ3 H3 ?h I3 (gD qS) st3 stop) ?r8);obtain⟨hr,I4⟩:=_z;subst hr;exact qv1 ⟨σ3,H3,I4,qn⟩
 . refine qm2 hp (Df (T.item X rfl rfl rfl hc i Ac s3 σ3 H3 ?h I3 (gD qS) st3 go) ?r8);obtain⟨u,hr,h4⟩:=_z;subst hr;refine qm2 hp (Df h4 fun _ s5 _z=>?_);obtain⟨x,H5,I5,r5,y5,WN,YN⟩:=_z;have I5':=I5.pinned (gD YN) (T.obj _ _ WN);refine qm2 hp (Df (hg _ s5 σ3 H5 x u _ I5' r5 (step x H5 y5)) fun _ s6 _z=>?_);obtain⟨σ6,H6,I6,q6⟩:=_z;refine qm2 hp (Df (hb _ s6 σ6 H6 _ I6 q6) fun f s7 q7=>?_)
   have again:∀{σ7:St}{H7:Hp},Bl X (Ac++Yh fp s5.heap) σ7 H7 s7->N σ7 H7->∃m,m<n/\∃i σ' H',Bl X Ac σ' H' s7/\tn i s7.heap/\(?gK)/\W i m σ' H':=fun {σ7 H7} I7 n7=>by
    obtain⟨m',hm,w7⟩:=hN σ7 H7 n7;refine⟨m',hm,i+1,σ7,H7,?j2,T.keep _ _ _ WN fun b hb o e=>(?pV).1,?eU,w7⟩;obtain⟨o,e,d⟩:=T.obj _ _ WN b hb;exact(?pV).2.1
   cases f with
   | next=>ext vS
   | cont=>ext vS
   | brk=>obtain⟨σ7,H7,I7,q7⟩:=q7;exact⟨σ7,H7,?j2,q7⟩
   | ret v=>obtain⟨x7,σ7,H7,I7,r7,q7⟩:=q7;exact⟨x7,σ7,H7,?j2,r7,q7⟩
universe e9
theorem for_list[?a1][?b5][?cB][?m6](hl:∀i σ H,?lK->?cN->?eP)
 [?uZ] :
 ∃W:?h7,(∃m,W 0 m σ H)/\∀i m σ H,?fP →
   (?y7 ?eN)\/(?wL ?eN ?eN):=by
 ext uW
 . ext uV
 . have e:?t8:=O9m
   ext vL
theorem cI[?a1][?b5][?cB][?m6](hl:∀i σ H,?lK->?cN->?cD)
 [?uZ] :
 ∃W:?h7,(∃m,W 0 m σ H)/\∀i m σ H,?fP →
   (?y7 ?e6)\/(?wL ?e6 ?e6):=by
 ext uW
 . ext uV
 . have e:?t8:=O9m
   ext vL
theorem Ck{lo:Int}{n:Nat}[?m6]
 (hs:∀i σ H,i<n->?cN->g (?iX) σ H ?pM) (hd:∀σ H,Pv n σ H->?bR) :
 ∃W:?h7,(∃m,W 0 m σ H)/\∀i m σ H,?fP →
   (?y7 ?h9)\/(?wL ?h9 ?h9):=by
 refine⟨fun i m σ H=>m=n-i/\i<=n/\?cN,⟨n,?a6,qa8 _,h0⟩,?_⟩;rintro i m σ H ⟨rfl,hi,p⟩;by_cases hlt:i<n
 . refine ?wW hlt n;obtain⟨e,y⟩:=y;subst e y;exact hs i σ _ hlt p
 . have e:i=n:=O9m
   subst e;exact ?j ⟨?gX,?oE⟩
noncomputable abbrev R2:=V->?dJ
noncomputable def OpR(X:Cx)(f:?pY)(r:R2):Prop :=
 ∀[?E] (x y:V) (v u:Value) (Q:VK),?p->?iP->?fK->r x y H Q →
   ?w9 ?kB ?c4
noncomputable def UnR(X:Cx)(f:?lS)(r:?dJ):Prop :=
 ∀[?E] (x:V) (v:Value) (Q:VK),?p->?iP->r x H Q →
   ?w9 (f v) ?c4
noncomputable def E6(X:Cx)(f:Value)(r:?k3):Prop :=
 ∀[?E] [?cA] [?c7] (Q:VK),?p->?b9->r xs H Q →
   ?w9 (call f us) ?c4
noncomputable def tOp(r:R2)(ta tb:TE):TE:=fun σ H Q=>ta σ H fun x H1=>tb σ H1 fun y H2=>r x y H2 Q
noncomputable def tUn(r:?dJ)(ta:TE):TE:=fun σ H Q=>ta σ H fun x H1=>r x H1 Q
inductive IrI(C:?kL)[?iE][?iC]:Prop
 | mk:∀i j,?kF->(y=?i j)->(C i j)->?sD->?oM
noncomputable def rI(C:?kL)[?iE]:R2:=fun x y H Q=>?oM
inductive Ap3[?iE][?iC]:Prop
 | mk:∀i j,?kF->(y=?i j)->?sD->?oL
noncomputable def UT[?iE]:R2:=fun x y H Q=>?oL
inductive IrU(g:?jM)(x:V)(H:Hp)(Q:VK):Prop
 | mk:∀i,?kF->(Q (g i) H)->?nS
noncomputable def rU(g:?jM):?dJ:=fun x H Q=>?nS
section
variable[?w6][?N]
theorem YX[?c5][?f3]{R:V->?dX}[?e]
 [?vZ] [?b1][?i8]
 [?v5] :
 ?uP:=by
 ext vT;ext aG;ext v1
theorem Bq{op:Operator}{r:R2}(ho:OpR X (?cW op) r)[?c5]:?yF (.BinOp a op b pos) (tOp r ta tb):=by
 ext J;exact wpAny_BinOp (?wQ u)
theorem Mn{op:UnaryOp}{r:?dJ}(ho:UnR X (unaryOp op) r)[?iG]:?yF (?k4 op a pos) (tUn r ta):=by
 ext J;exact ?tZ (Df ?dV fun v s1 ?dM=>ho Ac s1 σ H1 x v Q I1 r1 q1)
theorem opI[?i8]{C:?kL}{g:?p2}
 (rule:∀[?mL] [?f0],C i j->?s5) :
 OpR X f (rI C ?nN):=by
 ext i2;obtain⟨i,j,rfl,rfl,hc,q⟩:=h;ext f5;ext s;exact rule i j t t' s _ _ hc ?qS
theorem Ag2[?i8]{g:?p2}
 (rule:∀[?mL] [?f0],?s5) :
 OpR X f (UT ?nN):=by
 ext i2;obtain⟨i,j,rfl,rfl,q⟩:=h;ext f5;ext s;exact rule i j t t' s _ _ ?qS
theorem SJ[?i8]{g:Int->?u4}
 (rule:∀[?mL] [?f0],Q (?gH ?bW) s->?rT) :
 ?wO f ?bW:=by
 ext i2;obtain⟨i,j,rfl,rfl,q⟩:=h;ext f5;ext s;exact rule i j t t' s _ _ ⟨.bl ?bW,H,I,rfl,q⟩
noncomputable def Bg5(i j:Int):Prop:=0<j/\?rC
noncomputable def zI(i j:Int):Prop:=(-(?hH)<i/\i<?hH)\/(-(?hH)<j/\j<?hH)
theorem zI.ok{i j:Int}(h:zI i j):IntMulOk i j:=by
 rcases h with⟨h1,h2⟩|⟨h1,h2⟩
 . exact .of_left (intBits_le_64 h1 h2)
 . exact .of_right (intBits_le_64 h1 h2)
theorem Ds:OpR X (?cW .Add) (UT (?y8 (i+j))):=?wK Ag2 add_int
theorem Jn:OpR X (?cW .Sub) (UT (?y8 (i-j))):=?wK Ag2 sub_int
theorem Xc:OpR X (?cW .FloorDiv) (rI Bg5 (?y8 (i / j))):=opI fun i j _ _ _ _ _ hc q=>by
 have h1:?nQ:=hc.1;have h2:?rC:=hc.2;exact floordiv_int O9m (by rw[qg8 i ?gU];exact q) (?j (PyProof.noPylong_small O9m))
theorem Jo:OpR X (?cW .Mod) (rI (fun _ j=>0<j) (?y8 (i%j))):=opI fun i j _ _ _ _ _ hc q=>by
 have h1:?nQ:=hc;exact mod_int' O9m (by rw[Int.fmod_eq_emod_of_nonneg i ?gU];exact q)
theorem unI{f:?lS}{g:?oR}
 (rule:∀(i:Int) (t:Tok) [?f0],Q (?i (g i) s.toks) ?cE->?y5 (f ?hD)) :
 UnR X f (rU fun i=>?i (g i)):=by
 intro Ac s σ H x v Q I rx h;obtain⟨i,rfl,q⟩:=h;ext f5;exact rule i t s _ _ (?xQ (g i))
theorem Ht:UnR X (unaryOp .USub) (rU fun i=>?i (-i)):=unI fun _ _ _ _ _ q=>neg_int q
universe e9
noncomputable def scal:V->V->?cH
 | ?w,?w=>true | ?w,?cO=>true | ?cO,?w=>true | ?w,?cY=>true | ?cY,?w=>true | ?w,?bH=>true | ?bH,?w=>true
 | ?cO,?cO=>true | ?cY,?cY=>true | ?bH,?bH=>true | .byt _,.byt _=>true
 | ?cO,?bH=>true | ?bH,?cO=>true | ?cY,?bH=>true | ?bH,?cY=>true
 | _,_=>false
structure Bg0[?iC]:Prop where
 mk::(left:?r3) (right:Q (.bl (?qM)) H)
noncomputable def rEq:R2:=fun x y H Q=>Bg0 x y H Q
structure Bf9[?iC]:Prop where
 mk::(left:?r3) (right:Q (.bl (! ?qM)) H)
noncomputable def rNe:R2:=fun x y H Q=>Bf9 x y H Q
theorem JQ{i j:Int}:?F (V.int i=V.int j)=?lJ:=by
 rw[ql6];simp
theorem PN{i j:Bool}:?F (V.bl i=V.bl j)=?lJ:=by
 rw[ql6];simp
theorem jQ{i j:Str}:?F (V.str i=V.str j)=?lJ:=by
 rw[ql6];simp
theorem jR{i j:?qF}:?F (V.byt i=V.byt j)=(i.toList==j.toList):=by
 rw[ql6];cases i;cases j;simp
section
variable[?w6][?N]
theorem Co[?aH]{Q:VK}{k k':Bool}[?e](q:Q (?e3) H)(e:k=k'):EP X Ac σ Q (?gH k') s:=by
 subst e;exact⟨?e3,H,I,rfl,q⟩
theorem Et:OpR X (?a2 .Eq) rEq:=by
 intro Ac s σ H x y v u Q I rx ry h;obtain⟨hs,q⟩:=h;cases x with
 | non =>
   cases rx;cases y with
   | non=>cases ry;exact PySem.EqNone.eq_none_none ?n
   | bl j=>cases ry;exact PySem.EqNone.eq_none_bool ?n
   | int j=>ext s;exact PySem.EqNone.eq_none_int ?n
   | str j=>ext s;exact PySem.EqNone.eq_none_str ?n
   | _=>ext aF
 | bl i =>
   cases rx;cases y with
   | non=>cases ry;exact PySem.EqNone.eq_bool_none ?n
   | bl j=>cases ry;exact eq_bool (Co I q PN)
   | str j=>ext s;exact PySem.EqMixed.eq_bool_str ?n
   | _=>ext aF
 | int i =>
   obtain⟨t,rfl⟩:=rx;cases y with
   | non=>cases ry;exact PySem.EqNone.eq_int_none ?n
   | int j=>ext s;exact eq_int (Co I q JQ)
   | str j=>ext s;exact PySem.EqMixed.eq_int_str ?n
   | _=>ext aF
 | str i =>
   obtain⟨t,rfl⟩:=rx;cases y with
   | non=>cases ry;exact PySem.EqNone.eq_str_none ?n
   | bl j=>cases ry;exact PySem.EqMixed.eq_str_bool ?n
   | int j=>ext s;exact PySem.EqMixed.eq_str_int ?n
   | str j=>ext s;exact eq_str (Co I q jQ)
   | _=>ext aF
 | byt i =>
   obtain⟨t,rfl⟩:=rx;cases y with
   | byt j=>ext s;exact PySem.W.eq_bytes (Co I q jR)
   | _=>ext aF
 | _=>ext vJ
theorem Iy:OpR X (?a2 .NotEq) rNe:=by
 intro Ac s σ H x y v u Q I rx ry h;obtain⟨hs,q⟩:=h;cases x with
 | non =>
   cases rx;cases y with
   | non=>cases ry;exact PySem.EqNone.ne_none_none ?n
   | bl j=>cases ry;exact PySem.EqNone.ne_none_bool ?n
   | int j=>ext s;exact PySem.EqNone.ne_none_int ?n
   | str j=>ext s;exact PySem.EqNone.ne_none_str ?n
   | _=>ext aF
 | bl i =>
   cases rx;cases y with
   | non=>cases ry;exact PySem.EqNone.ne_bool_none ?n
   | bl j=>cases ry;exact ?x4 ne_bool PN
   | str j=>ext s;exact PySem.EqMixed.ne_bool_str ?n
   | _=>ext aF
 | int i =>
   obtain⟨t,rfl⟩:=rx;cases y with
   | non=>cases ry;exact PySem.EqNone.ne_int_none ?n
   | int j=>ext s;exact ?x4 ne_int JQ
   | str j=>ext s;exact PySem.EqMixed.ne_int_str ?n
   | _=>ext aF
 | str i =>
   obtain⟨t,rfl⟩:=rx;cases y with
   | non=>cases ry;exact PySem.EqNone.ne_str_none ?n
   | bl j=>cases ry;exact PySem.EqMixed.ne_str_bool ?n
   | int j=>ext s;exact PySem.EqMixed.ne_str_int ?n
   | str j=>ext s;exact ?x4 ne_str jQ
   | _=>ext aF
 | byt i =>
   obtain⟨t,rfl⟩:=rx;cases y with
   | byt j=>ext s;exact ?x4 PySem.W.ne_bytes jR
   | _=>ext aF
 | _=>ext vJ
theorem Pc:?wO (?a2 .Lt) (?F (i<j)):=?wK SJ lt_int
theorem JC:?wO (?a2 .LtE) (?F (i<=j)):=?wK SJ le_int
theorem OA:?wO (?a2 .Gt) (?F (j<i)):=?wK SJ gt_int
theorem Ag1:?wO (?a2 .GtE) (?F (j<=i)):=?wK SJ ge_int
theorem WZ:OpR X (?a2 .Is) (fun x y H Q=>y=?w/\Q (.bl (?F (x=?w))) H):=by
 ext i2;obtain⟨rfl,q⟩:=h;cases ry;refine is_none_gen (Co I q ?_)
 cases x<;>first
  | (cases rx;rfl)
  | (ext f5;rfl)
theorem Bk(b:Expr){op:CmpOp}(h:?n8:=by decide)(h2:?p7:=by decide):?hL:=by
 ext vB
 ext vA
 cases b<;>simp[behindInMarks,e1,e2]
theorem Le{op:CmpOp}{r:R2}[?mG][?c5][?w7]:?xA PE (tOp r ta tb):=by
 ext J;exact wpAny_Compare1 (?wQ u) hm
inductive qE[?f8](x:V)(H':Hp):Prop
 | mk:∀k,(x=?e3)->(Q k H')->?nP
noncomputable def Ac4(t:TE):TT:=fun σ H Q=>t σ H fun x H'=>?nP
theorem Bf{op:CmpOp}{r:R2}[?mG][?c5][?w7]:?xA PT (Ac4 (tOp r ta tb)):=by
 ext J
 refine ?t2 (Df ?dV fun v s1 ?dM=>Df (?wH hb _) fun u s2 ?pN =>
  Df (?xO _) fun c s3 ?oX=>?_) hm
 subst e;cases r3;exact qj4 ⟨H3,I3,q3⟩
inductive jY(r':R2)(tc:TE)(σ:St)(Q:VK)(y:V)(z:V)(H3:Hp):Prop
 | mk:∀k,(z=?e3)->((if k=true then tc σ H3 fun w' H4=>r' y w' H4 Q else Q (?gZ) H3))->?nL
noncomputable def WM(r r':R2)(ta tb tc:TE):TE:=fun σ H Q=>ta σ H fun x H1=>tb σ H1 fun y H2=>r x y H2 fun z H3=>?nL
theorem nX{op op':CmpOp}{r r':R2}[?mG](ho':OpR X (?a2 op') r')[?c5](hc:?yF c tc)
 (hm:lastMarks ?rX [b,c]=false:=by with_unfolding_all rfl):?yF (?gM a ?rX [b,c] pos) (WM r r' ta tb tc):=by
 ext J
 refine Compare_chain (Df ?dV fun v s1 ?dM=>chain_link (Df (?wH hb _) fun u s2 ?pN =>
  Df (?xO _) fun d s3 ?oX=>?_)) hm
 subst e;cases r3;refine qj4 ?_;cases k with
 | false=>exact ite_ff ⟨?gZ,H3,I3,rfl,q3⟩
 | true=>exact ite_tt (chain_last (Df (hc Ac s3 σ H3 _ I3 q3) fun w' s4 ⟨z',H4,I4,r4,q4⟩=>ho' Ac s4 σ H4 y z' u w' Q I4 r2 r4 q4))
theorem BX:(sizeLine:Nat)<2 ^ 63:=by rw[sizeLine_eq];decide
theorem Sk{x:V}[?M](r:?G [x] us):∃u,us=[u]/\?c1:=by
 cases r with
 | cons r1 r2=>cases r2;exact⟨_,rfl,r1⟩
theorem Xo{x y:V}[?M](r:?G [x,y] us):∃u w',us=[u,w']/\?c1/\?aA y w':=by
 cases r with
 | cons r1 r2 =>
   cases r2 with
   | cons r3 r4=>cases r4;exact⟨_,_,rfl,r1,r3⟩
theorem aY[?iD]:?x3 "max" (if j > i then j else i):=by
 ext v3;refine max_two_ints ?bQ ?nY
 by_cases hj:j > i
 . rw[?fU,?fU];exact ?a8
 . rw[?hU,?hU];exact ?a8
theorem mG[?iD]:?x3 "min" (if j<i then j else i):=by
 ext v3;refine min_two_ints ?bQ ?nY
 by_cases hj:j<i
 . rw[?fU,?fU];exact ?a8
 . rw[?hU,?hU];exact ?a8
theorem MG:E6 X (?aY "int") (fun xs H Q=>(∃i,xs=[?bK]/\Q ?dN H)\/∃k,xs=[?e3]/\Q (?i (if k then 1 else 0)) H):=by
 intro Ac s σ H xs us Q I r h;rcases h with⟨i,rfl,q⟩|⟨k,rfl,q⟩
 . obtain⟨u,rfl,t,rfl⟩:=Sk r;exact call_int_int ⟨?bK,H,I,?a8,q⟩
 . obtain⟨u,rfl,r1⟩:=Sk r;cases r1;exact call_int_bool (?xQ (if k then 1 else 0))
universe e9
structure iN[?aM](x dx C:Addr)(mA:?bD):Prop where
 obj:?dU x=?c (?hS C dx)
 ns:?j0
 ne:?l7
theorem lH{h:Heap}{dx:Addr}[?mK](n:?j0):∃od,?dU dx=?c od/\?nI:=by
 obtain⟨o,es,ep,ho,hd,hk,_,hm⟩:=n;refine⟨o,ho,fun name=>?_⟩;have e:=hm ?R;unfold nsFind findBy at e;rw[←Array.find?_toList]at e;unfold PySem.W.lookIn;rw[hd];dsimp only;split
 . rename_i y q
   rw[q]at e;exact ?rN
 . rename_i q
   rw[q]at e
   have a:?o2 (·.refKey)=false:=by
    rw[List.any_eq_false];intro y hy;obtain⟨z,t,hkey⟩:=hk y (Array.mem_toList_iff.mp hy);simp[DictEntry.refKey,hkey]
   have a':¬?o2 (·.refKey)=true:=by rw[a];exact qd3
   rw[?A a'];exact ?rN
theorem iN.look{h:Heap}{x dx C:Addr}[?mK](I:iN h x dx C mA):∃od,PySem.W.InstAt h x (?hS C dx) C (?c od)/\?nI :=
 let ⟨od,ho,hl⟩:=lH I.ns
 ⟨od,⟨I.obj,rfl,rfl,ho⟩,hl⟩
section
variable[?mJ][?t][?Q][?b4][?a1]{x dx C f:Addr}[?mK]{name:Str}{v:Value}
theorem tS{expr:Bool}[?b1][?vE][?w5]
 (ha:?qC=?dG) (hv:?m0=?a5) (hv':?o7 v=true) (h:Q v ?cE) :
 ?wG ?Y (?jS ?cC ?R expr):=by
 ext mE;exact PySem.W.get_value X J (qu3 hg).1 (PySem.W.findObj_own hh ha rfl (by rw[hl,hv])) hv' h
theorem pI[?vX][?vE]
 (hf:?qC=?hE) (ht:?jD) (hv:?m0=none) (h:Q (?k f,[?k x]) s) :
 ?wG ?Y (?kE ?cC ?R pl):=by
 ext mE;exact PySem.W.method_fn X J (qu3 hg).1 (qu3 hg).2 hf (qv8.mp ht) (by show(?nK).map (·.isSome)=?c ?c0;rw[hl,hv];rfl) h
theorem rH{ns:?I}[?f6](X:?eZ)(I:?oO)
 (hs:?wV K) (hp:?qY) (ht:?oA K C ?R=?dG) [?w5]
 (hw:?jQ mA ns) (hsz:ns.length<=sizeLine)
 (h:∀h',iN h' x dx C (fun y=>if y=name then ?a5 else mA y)->?j8 dx ?o h'->Q () { s with heap:=h',toks:=s.toks+2 }) :
 ?wG ?Y (setAttr ?cC ?R v):=by
 ext mE;refine PySem.W.set_plain X J hs (PySem.W.osa_open (s:=?cE) (r:=none) X J hp ht fun b=>?_);obtain⟨cd,hc,hd'⟩:=PySem.W.any_some hh;have hx:?cR x=?c ⟨?hR,?c dx,.plain,#[]⟩:=I.obj;refine qa3 (qb4 (qa3 (qa3 (wpAny_loadPart hx (qa3 (PySem.W.Looks.here (s:=?cE) (PySem.W.looks_clsIn X hc) ?_))))));rw[hd'];refine qb4 (a:=?c dx) (qa3 (qb4 (qa3 ?_)));refine wpAny_nsSet1 (s:=?cE) I.ns fun h' hn2 hs2=>?_;obtain⟨oD,esD,epD,hoD,hdD,hcD⟩:=hn2.count (PySem.Within.cons ?R v hw);refine qa3 (wpAny_lookBehind hoD (by rw[hdD];exact pastItsLine_dict (qa6 hcD (by rw[qd0];omega))) ?_);exact qb4 (h _ ⟨(hs2.2 _ (?g8 I.ne)).trans I.obj,hn2,I.ne⟩ hs2)
theorem OP{R:Result->?bJ}{vs:?u}[?iB](X:?eZ)(hm:?tC)
 (hi:?xE "__init__"=?hE) (hf:PySem.W.typeIn K ?T=?c (?aY "function"))
 (h:?lX ?Y (?xS vs) (.call ?T ⟨?k ?U::vs,kw⟩) (PySem.W.InitBack ?U R)
   ?qB) :
 ?lX ?Y A (.call ?S ⟨vs,kw⟩) R s:=by
 obtain⟨hh,g,d,t,os⟩:=s;exact PySem.W.make_core (PySem.W.makes_of X hm) (PySem.W.looks_findIn X hi) (fun self=>PySem.W.bind_fn X self hf) ?fO h
universe e9
noncomputable def putF(f:Str)(v:V):?aR->?aR
 | []=>[(f,v)]
 | (g,x)::r=>if g=f then(g,v)::r else(g,x)::?qX
theorem Aq(f g:Str)(v:V):∀fs:?aR,(?lR).lookup g=if g=f then ?a5 else ?fN g
 | []=>by
   show List.lookup g [(f,v)]=_;by_cases h:g=f
   . have hb:(g==f)=true:=qv8.mpr h;simp only[List.lookup,hb,?aZ h]
   . have hb:(g==f)=false:=qj7.mpr h;simp only[List.lookup,hb,?A h]
 | ?g6=>by
   have ih:=Aq f g v r;ext m5
   . rw[?fQ];by_cases h:g=k
     . have hb:?sI:=qv8.mpr h;simp only[List.lookup,hb,?aZ (h.trans hk)]
     . have hb:?p9:=qj7.mpr h;simp only[List.lookup,hb,?A (fun e:g=f=>h (e.trans hk.symm))]
   . rw[?hG];by_cases h:g=k
     . have hb:?sI:=qv8.mpr h;simp only[List.lookup,hb,?A (fun e:g=f=>hk (h.symm.trans e))]
     . have hb:?p9:=qj7.mpr h;simp only[List.lookup,hb];exact ih
theorem U3(f:Str)(v:V):∀fs:?aR,f∈?tB (·.1)/\∀g,g∈?hO (·.1)->g∈?tB (·.1)
 | []=>⟨?tT,fun g h=>?eQ⟩
 | ?g6=>by
   obtain⟨i1,i2⟩:=U3 f v r;ext m5
   . rw[?fQ];subst hk;exact⟨?a6,fun g h=>by simpa using h⟩
   . rw[?hG];refine⟨?_,fun g h=>?_⟩
     . rw[qe0];exact qc5 _ i1
     . rw[qe0]at h ⊢;rcases ?jI h with e | e
       . exact qb9.mpr (?j e)
       . exact qc5 _ (i2 g e)
theorem Cb(f:Str)(v:V):∀fs:?aR,(?lR).length<=fs.length+1
 | []=>?tT
 | ?g6=>by
   have ih:=Cb f v r;ext m5
   . rw[?fQ,qd0,qd0];omega
   . rw[?hG,qd0,qd0];omega
theorem M5.some_of{v:V}{o:?dT}(r:M5 ?dR o):∃u,o=?r/\?b0:=by
 cases o with
 | none=>exact ?rD
 | some u=>exact⟨u,rfl,r⟩
theorem M5.none_of{o:?dT}(r:M5 ?cK o):o=none:=by
 cases o with
 | none=>rfl
 | some u=>exact ?rD
theorem LS{v:V}[?O][?c9]:?o7 u=true:=by
 cases v with
 | non=>cases (?x7 ?qG);rfl
 | bl b=>cases (show u=Value.bool b from r);rfl
 | int i=>obtain⟨t,e⟩:=(?x7 ?tY);cases e;rfl
 | str x=>obtain⟨t,e⟩:=(?x7 ?p1);cases e;rfl
 | byt b=>obtain⟨t,e⟩:=(?x7 ?p4);cases e;rfl
 | flt b=>obtain⟨t,e⟩:=(?x7 ?sW);cases e;rfl
 | ref a=>cases (?x7 ?eV);rfl
 | ty n=>cases (show u=Value.type n from r);rfl
section
variable[?aI]{H H':Hp}{h h':Heap}{a C dx:Addr}{fs fs':?aR}
theorem CB(hok:?lP)(e:H a=?hW):∃mA,iN h a dx C mA/\(?kZ)/\?jQ mA (?hO (·.1))/\?o8/\?tK:=by
 obtain⟨d,z,ne,ob,mA,n,r,q⟩:=(show ?aP P w H h a (?j9) from hok a _ e)
 exact⟨mA,⟨ob,n,ne⟩,r,q,z,d⟩
universe e9
structure Cls[?l](C:Addr):Prop where
 pg:?iT K C Str.empty=true
 hd:?u0
 po:?qY
 sa:?wV K
theorem Cls.get[?a1]{C:Addr}(c:Cls K C)(f:Str):?iT K C f=true:=c.pg
noncomputable def De[?l](C:Addr)(f:Str):Prop:=?xE f=?dG
theorem De.taker[?a1]{C:Addr}{f:Str}(n:?iL):?oA K C f=?dG:=by
 unfold PySem.W.takerIn;rw[show ?xE f=?dG from n];rfl
structure QC[?l](C:Addr)(m:Str)(f:Addr):Prop where
 at_:?xE m=?hE
 fn:?jD
 kp:?kD K ?T=true
section
variable{X:Cx}[?aH]{a C dx:Addr}{fs:?aR}{f:Str}{v:V}[?t][?Q]
theorem HJ{b:Bool}[?b1][?e][?mB](n:?pW)(l:?rM)
 (h:∀u s',?wF H s'->?b0->Q u s'):?wG ?g (?jS ?eI f b):=by
 obtain⟨mA,O,r,_,_,_⟩:=?jN;obtain⟨u,hu,ru⟩:=M5.some_of (v:=v) (o:=mA f) (by rw[←l];exact r f);exact tS ?eB O (c.get f) c.hd n hu (LS ru) (h u _ (?cP) ru)
theorem Sb{m:Str}{g:Addr}[?vX][?e][?mB](k:?pB)(l:?kN)
 (h:Q (?k g,?cG) s):?wG ?g (?kE ?eI m pl):=by
 obtain⟨mA,O,r,_,_,_⟩:=?jN;have hn:mA m=none:=M5.none_of (by rw[←l];exact r m);exact pI ?eB O (c.get m) k.at_ k.fn hn h
theorem GG{y:V}[?O][?f6][?e][?mB](n:?pW)(hl:?rO)(ry:?fK)
 (h:∀s',?wF (upd H a (.ins C dx (?jK))) s'->?kI):?wG ?g (setAttr ?eI f u):=by
 obtain⟨mA,O,r,wi,_,ho⟩:=?jN;have hz:(?hO (·.1)).length<=sizeLine:=by rw[qa4,sizeLine_eq];omega
 refine rH ?eB O c.sa c.po n.taker c.hd wi hz fun h' O' sb=>h _ ?_;have hd:∃o,?e7 dx=?v:=let ⟨o,_,_,e',_⟩:=O'.ns;⟨o,e'⟩
 refine I.write (x:=a) (e:=dx) (by rw[e];exact True.intro) (?y ho) (fun b q hb z=>?u9 z) hd ?_;refine⟨by rw[Aj O.ne];exact ho,?_,O.ne,O'.obj,_,O'.ns,fun g=>?_,fun g hg=>?_⟩
 . have:=Cb f y fs;omega
 . show M5 ((?jK).lookup g) (if g=f then ?r else mA g);rw[Aq];by_cases q:g=f
   . rw[?aZ q,?aZ q];exact ry
   . rw[?A q,?A q];exact r g
 . by_cases q:g=f
   . rw[q];exact(?qQ).1
   . refine(?qQ).2 g (wi g fun z=>hg ?_);show(if g=f then ?r else mA g)=none;rw[?A q];exact z
theorem Bl.made[?e]:Bl X Ac σ (upd (upd H ?a7 (.own ?U)) ?U (?q7))
 ?qB:=by
 have e1:(?eC).get? ?a7=?c ?jT:=qc0 ?o rfl
 have e2:(?q5).get? ?U=?c (?iW):=by
  have:=qc0 (?eC) (o:=?iW) rfl
  rwa [qi0]at this
 have e3:(?eC).Ns ?a7 (?h5):=⟨?jT,#[],_,e1,rfl,(fun e he=>?C he ?P),fun _=>rfl⟩
 have I1:=I.laid (a:=s.heap.objs.size) (o:=.own ?U) (h':=?eC) (t':=s.toks) (fun b u q=>qa5 _ q) ?bZ ⟨_,e1⟩;refine I1.laid (a:=?hA) (o:=?q7) (t':=s.toks) (fun b u q=>qa5 _ q) (qk6 (qi0 _ _)) ?_;have ne:s.heap.objs.size≠?hA:=qc7 (Nat.lt_succ_self _);refine⟨by rw[Aj ne,Ab],qa8 _,ne,e2,?h5,(Heap.Ns1.of_empty e3).at fun o q=>qa5 _ q,fun _=>True.intro,fun y hy=>?C rfl hy⟩
theorem uD[?mJ]{env:Env}[?b6]{f:Str}[?N][?b4][?b1](hb:?uR e f env (?lT)=?lT)
 (h:?d ?Y A (?lT) (fun o s₁=>?d ?Y A (?jS o f true) Q E s₁) E s):?wG ?Y (?V (?bF e f pos) env) :=
 Attribute_any_ h (by rw[arm_eval_Attribute,hb])
universe e9
inductive ItFld[?l](f:Str)[?f9]:Prop
 | mk:∀a C dx fs v,?eO->(?k6)->(Cls K C)->(?iL)->(?rM)->(Q v H1)->?r1
noncomputable def Ac8[?l](ta:TE)(f:Str):TE:=?wC ta ?r1
inductive VS[?l](f:Str)(D:Ends)(σ:St)(y:V)(x:V)(H2:Hp):Prop
 | mk:∀a C dx fs,?eO->(H2 a=?hW)->(Cls K C)->(?iL)->(?rO)->(D.nx σ (upd H2 a (.ins C dx (?jK))))->?mU
noncomputable def Ad9[?l](ta tv:TE)(f:Str):TS:=fun D σ H=>tv σ H fun y H1=>ta σ H1 fun x H2=>?mU
section
variable{X:Cx}{o e value:Expr}{f:Str}{pos pos' tpos:Pos}{ta tv:TE}
theorem WY(he:?yF e ta)(hb:?uR e f ?f (?cZ)=?cZ):?yF (?bF e f pos) (Ac8 X.K ta f):=by
 ext J;refine uD hb (Df ?cQ ?iZ);obtain⟨x,H1,I1,rx,a,C,dx,fs,v,ex,ea,c,n,l,q⟩:=_z;subst ex;obtain rfl:?eV:=rx;exact HJ I1 ea c n l fun u' s2 I2 ru=>⟨v,H1,I2,ru,q⟩
theorem WV(ha:?n2)(hv:?yF value tv)(hs:?jY value (?c (?sA)) ?gE ?f=?gN):PS X (?kR [?sA] value pos) (Ad9 X.K ta tv f):=by
 ext d9;refine plainObj_wpAny_Assign_Attribute (Df (?wR hv h) fun u s1 ⟨y,H1,I1,ry,q⟩=>Df (ha Ac s1 σ H1 _ I1 q) fun ov s2 _z=>?_) hs;obtain⟨x,H2,I2,rx,a,C,dx,fs,ex,ea,c,n,l,q2⟩:=_z;subst ex;obtain rfl:ov=?eS a:=rx;exact GG I2 ea c n l ry fun s3 I3=>⟨σ,_,I3,q2⟩
theorem vA{pl:?j6}{m:Str}{apos:Pos}{args:?e4}[?f3][?b1]{te:TE}[?dD][?e]
 (h:te σ H fun x H1=>∃a C dx fs g,x=?aN/\?k6/\?kW/\?pB/\?kN ∧
   ∀s1,?wF H1 s1->?d ?g X.A (?fH pos (?k g) ?cG (?eE pos (?bI args ?f)) ?g0) Q ?h s1)
 (ht:?nM=(do
   let ov ←?cZ
   ?lB
   let ?j3 ←?lA
   ?wU (?bI args ?f))) :
 ?w9 (?nM) Q:=by
 refine ?uD;obtain⟨x,H1,I1,rx,a,C,dx,fs,g,ex,ea,c,k,l,q⟩:=_z;subst ex;obtain rfl:?eV:=rx;exact Sb I1 ea c k l (q s1 I1)
universe e9
section
variable{X:Cx}[?aH][?t][?Q][?b1]{c:Value}{b:Bool}
universe e9
structure Gc(k:Nat)[?dF]:Prop where
 hd:?sM
 dp:A.depth+3*k+5<recursionLimit
 un:A.units+16*k+200<cLine
 gd:A.guards=?c []
theorem Gc.mono{j k:Nat}[?t](r:?dS)(h:j<=k):Gc j A:=⟨r.hd,?tR,?tU,r.gd⟩
theorem Gc.deeper{k:Nat}[?t](r:?oZ)(env:Env):Gc k (?jG env) :=
 ⟨r.hd,by have:=r.dp;show ?pA+3*k+5<_;omega,by have:=r.un;show A.units+3+16*k+200<_;omega,r.gd⟩
theorem GY[?t]{C:Addr}[?M][?iB]:(?eR).depth=?pA:=by
 ext v0
theorem ET[?t]{C:Addr}[?M][?iB]:(?eR).guards=A.guards:=by
 ext v0
theorem gY[?t]{C:Addr}[?M][?iB]:(?eR).units=A.units+1:=by
 first | rfl | simp[Around.under,Code.cUnits,Code.frames,Code.isFrame]
theorem Gc.make{k:Nat}[?t](r:?oZ)(C:Addr)[?c7](kw:?g4):Gc k (?eR) :=
 ⟨r.hd,by have:=r.dp;rw[GY];omega,by have:=r.un;rw[gY];omega,by rw[ET];exact r.gd⟩
theorem Gc.depth{k:Nat}[?t](r:?dS):A.depth<recursionLimit:=?tR
theorem Gc.units{k:Nat}[?t](r:?dS):A.units+64<cLine:=?tU
theorem Gc.u8{k:Nat}[?t](h:?dS):A.units+8<cLine:=by
 have:=h.units;omega
noncomputable def wK:TA:=fun _ H Q=>Q [] H
noncomputable def Ad2(ta:TE)(tr:TA):TA:=fun σ H Q=>ta σ H fun x H1=>tr σ H1 fun xs H2=>Q (x::xs) H2
section
variable{X:Cx}[?b6][?dE]{te:TE}{t:TA}[?N]
theorem Ae:PA X [] wK:=fun _ _ _ _ H Q I h=>Calls.spliced_nil ⟨[],H,I,?H,h⟩
theorem Aa(ha:?rG)(hr:?iQ)(hs:?iR:=by rfl):PA X ?a9 (Ad2 te t):=by
 intro pos Ac s σ H Q I h;rw[hs];show ?xY (spliced (?rH::?k8));refine qo6 (Df ?dV ?iZ);ext aG;exact Df (hr pos Ac s1 σ H1 _ I1 q1) fun us s2 ⟨xs,H2,I2,r2,q2⟩=>⟨x::xs,H2,I2,?K r1 r2,q2⟩
structure Ap1(Q:VK)[?cA](H1:Hp):Prop where
 mk::(left:?cJ) (right:?xZ ?g7)
noncomputable def Ax1(t:TA):TE:=?xG Ap1
structure Ap2(Q:VK)[?cA](H1:Hp):Prop where
 mk::(left:?cJ) (right:?xZ ?fD)
noncomputable def Ax5(t:TA):TE:=?xG Ap2
theorem D7{x1}(h:?iQ):?yF (.Tuple es x1 pos) (Ax1 t):=by
 intro Ac s σ H Q I hq;refine ?wJ wpAny_Tuple_spliced;ext vI;refine(?xM ?g7);exact⟨z,us,r,?tN⟩
theorem Hh(h:?iQ):?yF (.List es pos) (Ax5 t):=by
 intro Ac s σ H Q I hq;refine ?wJ wpAny_List_spliced;ext vI;refine(?xM ?fD);exact⟨z,us,0,r,?g5⟩
universe e9
noncomputable abbrev Sp:=?q->Hp->VK->?yI XK
noncomputable abbrev QO:=?bE->Hp->Shared->XK->?bX
structure IP[?c6][?l][?i5][?dF][?dC][?b3](H:Hp):Prop where
 frames:A.frames=?c ?B
 mod:Mod K mg ?aD
 bs:∀b o,base.get? b=?v->?sV
 bsz:base.objs.size<=s.heap.objs.size
 funs:?gF ?aD ?B
 frf:∀b∈MR ?B,?x
 hok:Q7 P w H ?o
 bare:?nU
noncomputable def CE[?dC][?c6](H:Hp)[?b3](Q:VK)(u:Value)[?aJ]:Prop :=
 ∃v H',?oI/\?u7/\Un (MR ?B) [] H H' ?o ?d3/\Q7 P w H' ?d3/\?b0/\?hM
noncomputable def CR(CX:QO)[?dC][?c6](H:Hp)[?b3](Q:VK)(E:XK)(r:Result)[?aJ]:Prop :=
 match r with
 | .ok (.ret u)=>?rV
 | .ok _=>False
 | .error e=>CX ?B H s E e s'
structure By[?c6][?l][?i5](CX:QO)(k:Nat)(f:Addr)(fd:FuncData)(ps:?I)(sp:Sp):Prop where
 len:?rA
 run:∀[?dF] [?dC] [?b3] (H:Hp) (args:Args) [?c7] [?b2] (Q:VK) (E:XK),?dS->?l3->BindsTo s fd args ?gI->?lE->?jH →
  ?lX ?d4 A (.call ?T args) (CR CX ?B P w H s Q E) s
theorem IP.make[?aI][?mA][?t]{outer:?bE}[?b4]{H:Hp}(e:?l3)(C:Addr)[?c7](kw:?g4) :
 IP P w K mg ?aD (?eR) ?B s H:=⟨by first | exact e.frames | (simpa[Around.under,Code.envs,Code.isFrame,pushEnvs]using e.frames),e.mod,e.bs,e.bsz,e.funs,e.frf,e.hok,e.bare⟩
section
variable{X:Cx}{Ac:Bj}{σ:St}{H:Hp}{s s':Shared}
theorem Bl.env0[?e]:IP ?W X.w X.K X.mg ?bG X.A ?c3 s H :=
 ⟨I.ok.frames,I.ok.mod,I.bs,qa6 ?n0 I.sz,I.stack,I.stkFree,?aT,?bC⟩
theorem Bl.after{Q:VK}[?O][?e](h:CE ?c3 ?W X.w H s Q u s'):?sK:=by
 obtain⟨v,H',os,bare,un,hok,r,q⟩:=h;obtain⟨hh,g,d,t,os'⟩:=s';obtain rfl:os'=s.os:=os;exact⟨v,H',I.call (h':=hh) (g':=g) (d':=d) (t':=t) (ch:=[]) un hok bare (fun b z=>?C z ?P),r,q⟩
universe e9
noncomputable def tCall[?iA](t:TA):TE:=fun σ H Q=>t σ H fun vs H1=>sp ?bL H1 Q E
inductive QF(C:Addr)(m:Str)[?iA](t:TA)(σ:St)[?f9]:Prop
 | mk:∀a dx fs,?eO->(?k6)->(?kN)->(t σ H1 fun vs H2=>sp (x::?bL) H2 Q E)->?qL
noncomputable def IW(C:Addr)(m:Str)[?iA](ta:TE)(t:TA):TE:=?wC ta ?qL
noncomputable def uP(C:Addr)[?iA](t:TA):TE:=fun σ H Q=>t σ H fun vs H1=>∀x dx,H1 x=none->H1 dx=none->?l7 →
 ?wN H1
noncomputable def M8[?l](fd:FuncData)(ps:?I)(ds:?u):Prop :=
 ∀[?b3] [?c7],?eZ->?qW->BindsTo s fd ?mZ (ps.zip (us++ds))
theorem M8.all[?a1]{fd:FuncData}{ps:?I}(h:∀us:?u,us.length=ps.length->bindArgs fd ?mZ=?bN ?gI):M8 K fd ps []:=fun s us _ hl=>by
 rw[List.append_nil]at hl ⊢;exact .of_eq (h us hl)
noncomputable def Si(CX:QO)(X:Cx)(E:XK):Prop:=∀(Ac:Bj) (σ:St) (H:Hp) [?b3] (e:Value) [?aJ],?p->CX ?c3 H s E e s'->?h e s'
section
variable[?w3]{ps:?I}{sp:Sp}{dvs:?q}{ds:?u}{E:XK}{x m:Str}{p pos apos:Pos}{e o:Expr}[?dE]{ta:TE}{t:TA}
theorem bM[?aH]{Q:VK}[?M]{vs:?q}[?d8][?iI][?f1]
 [?e] [?iH] (h:sp ?bL H Q E):?w9 (call ?T us) ?c4:=by
 have r2:?G ?bL (us++ds):=r.append hd;have hl:?qW:=by rw[←r2.length];exact F.len _ _ _ _ h
 refine wpAny_call (codeAny_mono (F.run X.A X.stack s H ⟨us,[]⟩ (us++ds) (vs++dvs) Q E hr I.env0 (hb s us I.kIn hl) r2 h) fun r s' hq=>?_);cases r with
 | error e=>exact hx Ac σ H s e s' I hq
 | ok fl =>
   cases fl with
   | ret u=>exact I.after hq
   | next=>exact ?l1
   | brk=>exact ?l1
   | cont=>exact ?l1
theorem SG[?d8][?iI][?fC](hm:?eH=?c ?T)(hk:?kD X.K ?T=true)[?f1]
 [?f7] [?i0] [?hX] (hpl:?dL (·.1)=false:=by rfl) :
 ?yD (tCall sp dvs E t):=by
 ext J;refine qs5 (Xe I hg hm ?_ hdb);refine ?wD hk;exact bM F hr hb hd hx I1 r q
theorem SA[?vN][?d8][?iI][?f1][?f7]
 (hst:?iR:=by rfl) (hpl:?dL (·.1)=false:=by rfl)
 (ht:?V (?wP o ?a9) ?f=(do
   let ov ←?lY
   ?lB
   let ?j3 ←?lA
   ?wU (?mY)):=by rfl) :
 ?yE ?a9 t:=by
 ext J;ext uX;refine qq1 (first:=?cG) (h₀:=X.base) ?iV hm.kp (Df (ha pos Ac s1 σ H1 _ I1 q) fun us s2 ⟨vs,H2,I2,r,q2⟩=>⟨I2.kIn,?_⟩) hst hpl;exact bM (us:=?aN::us) (vs:=?aN::vs) F hr hb hd hx I2 (?K rfl r) q2
theorem NV[?vN][?d8][?iI][?f1]
 (ht:?V (?wP o []) ?f=(do
   let ov ←?lY
   ?lB
   let ?j3 ←?lA
   ?wU (?bI [] ?f)):=by rfl) :
 ?yE [] wK:=by
 ext J;ext uX;exact PySem.W.callWith_K0 (first:=?cG) I1.kIn hm.kp (bM (us:=?cG) (vs:=?cG) F hr hb hd hx I1 (?K rfl ?H) q)
structure Mk[?l](C f:Addr):Prop where
 makes:?tC
 init:?xE "__init__"=?hE
 fn:?jD
 kp:?kD K ?S=true
theorem NH[?aH]{Q:VK}[?M]{vs:?q}(M:?sS)[?d8](hr:?r5)(hb:?sC)(hd:?pX)
 (hx:?q0) [?e] [?iH]
 (h:∀x dx,H x=none->H dx=none->?l7->?wN H) :
 ?w9 (call ?S us) ?c4:=by
 have hq:=h ?U ?a7 (?lF (qm8 _)) (?lF ?bZ) (qc7 (Nat.lt_succ_self _));have I2:=Bl.made (C:=C) I;have r2:?G (?q9::?bL) (?eS ?U::(us++ds)):=?K rfl (r.append hd)
 have hl:(?j1++ds).length=ps.length:=by
  have e:=r2.length;rw[F.len _ _ _ _ hq]at e;exact e.symm
 refine wpAny_call (OP (f:=f) ?eB M.makes M.init (qv8.mp M.fn) (codeAny_mono (F.run _ ?c3 _ _ ⟨?j1,[]⟩ (?eS ?U::(us++ds)) _ _ E (hr.make C us [])
  (I2.env0.make C us []) (hb _ (?j1) I2.kIn hl) r2 hq) fun r s' hq'=>?_))
 cases r with
 | error e=>exact hx Ac σ _ _ e s' I2 hq'
 | ok fl =>
   cases fl with
   | ret u =>
     obtain⟨v,H',I3,rv,ev,q3⟩:=I2.after hq';subst ev;exact⟨rv,⟨?q9,H',I3,rfl,q3⟩⟩
   | next=>exact ?l9
   | brk=>exact ?l9
   | cont=>exact ?l9
theorem sD(M:?sS)[?d8](hr:?r5)[?fC](hm:?eH=?c ?S)[?f1]
 [?f7] [?i0] [?hX] (hpl:?dL (·.1)=false:=by rfl) :
 ?yD (uP C sp dvs E t):=by
 ext J;refine qs5 (Xe I hg hm ?_ hdb);refine ?wD M.kp;exact NH M F hr hb hd hx I1 r q
universe e9
section
variable[?w3]{ps ks:?I}{sp:Sp}{E:XK}{x m:Str}{p pos apos kpos:Pos}{e o:Expr}[?dE]{kws:?m Keyword}{te ta:TE}{t tk:TA}{nm:?bA Str}
variable{g:?u->?u->?u}{gV:?q->?q->?q}
universe e9
structure FnScope(N P:?I)(sc:Scope):Prop where
 kind:?rZ
 co:?o0
 gen:?u2
 nd:N.Nodup
 pre:N.take P.length=P
 par:?qE
 nofree:?nH
theorem AZ[?i3]:?wY ?dQ
 | [],_,_=>rfl
 | ?oG,m,h=>by
   unfold bindL;rw[AZ ?nF];split
   . have:x≠n:=?o6
     simp[this]
   . rfl
theorem Bh{N P:?I}{sc:Scope}(h1:?rZ:=by exact rfl)(h2:?o0:=by exact rfl)(h3:?u2:=by exact rfl)(h4:N.Nodup:=by decide +kernel)(h5:N.take P.length=P:=by exact rfl)
 (h6:?qE:=by decide +kernel) (h7:?nH:=by decide +kernel):FnScope N P sc:=⟨h1,h2,h3,h4,h5,h6,h7⟩
theorem bB[?i3]:?wY ?dP
 | [],_,_=>rfl
 | ?oG,m,h=>by
   unfold bindC;rw[bB ?nF];split
   . rfl
   . have:x≠n:=?o6
     simp[this]
theorem bA[?i3]{v:Value}:∀[?vP],P.Nodup->?s2->?kM->?aC x=?bV →
 ?dQ ?aC (?j7) m x=?a5
 | [],_,_,_,_,h,_,_=>?eQ
 | _::_,[],_,_,_,_,h,_=>?eQ
 | p::P,?fR,0,m,nd,h1,h2,hk=>by
   simp at h1 h2;subst h1;subst h2;show ?y9 ?dQ p;unfold bindL;rw[AZ ?nR,?fQ];simp
 | p::P,?fR,i+1,m,nd,h1,h2,hk=>by
   show ?y9 ?dQ x;unfold bindL;exact ?wZ bA
theorem bC[?i3]{v:Value}:∀[?vP],P.Nodup->?s2->?kM->?aC x≠?bV →
 ?dP ?aC (?j7) m x=?a5
 | [],_,_,_,_,h,_,_=>?eQ
 | _::_,[],_,_,_,_,h,_=>?eQ
 | p::P,?fR,0,m,nd,h1,h2,hk=>by
   simp at h1 h2;subst h1;subst h2;show ?y9 ?dP p;unfold bindC;rw[bB ?nR,?hG];simp
 | p::P,?fR,i+1,m,nd,h1,h2,hk=>by
   show ?y9 ?dP x;unfold bindC;exact ?wZ bC
noncomputable def start(N:?I)[?b2]:St:=vs.map ?c++List.replicate (N.length-vs.length) ?cK
noncomputable def IE(CX:QO)[?c6][?l][?i5](N:?I)(qual:Str)(scope:Scope)(f:Addr)(cd:Value)[?dF][?dC][?b3](H:Hp)(E:XK):Cx where
 prog:=P
 w:=w
 K:=K
 mg:=mg
 base:=base
 A:=?oH
 N:=N
 s₀:=s
 H₀:=H
 env:=?dW
 outer:=outer
 stack:=?dW::outer
 ex:=[]
 calm:=true
 fn:=fun _=>true
 pn:=[]
 xe:=fun e s'=>?d ?d4 (?oH) (leaving (?dW) e) (fun _ s''=>CX ?B H s E e s'') (fun e' s''=>CX ?B H s E e' s'') s'
theorem fJ{sc:Scope}{n:Nat}{x:Str}(h:?jW):∃c,(?r2 n ?o3 []).lookup x=?hB:=by
 have q:=?rR ?o3 n [] (?j h);exact Option.isSome_iff_exists.mp q
theorem LM{CX:QO}[?aI][?mA]{N ps:?I}{qual:Str}{scope:Scope}{f:Addr}{cd:Value}[?t]{outer:?bE}{s s1:Shared}{H:Hp}{E:XK}[?M]{vs:?q}
 (S:?t7) (hd:?sM) (e0:?l3) (hl:?sO) [?iH]
 (x:InCallC s ?a7 (?dQ ?t6 ?gI ?h5) (?tW) (?dP ?t6 ?gI ?h5) s1) :
 Bl (?q8) [] ?hP H s1:=by
 have hpl:ps.length<=N.length:=by have:=?bP List.length S.pre;rw[qc9]at this;omega
 obtain⟨h1,tk,rfl,hk⟩:=x.done;have noA:∀b:Addr,b ∉ (?q8).ex:=fun b z=>?C (show b∈([]:?D) from z) ?P
 refine⟨⟨e0.mod,S.kind,rfl,rfl,?gX,fun y z c h1 h2=>?_,fun y hy=>?_,fun y c _ h=>?_,fun _=>hd,Around.frames_deeper e0.frames,?y ?pK,?rU,e0.bs,e0.bsz,fun b _ _=>noA b,?rU,e0.funs,e0.frf⟩,
  rfl,e0.bare,?iM hk,⟨_,x.toInCall.ns,fun i y v h1 h2 h3=>?_⟩,fun y c h=>⟨_,x.cell y c h⟩,?sB ?bZ,fun y c h=>?_,fun p hp=>?C (show p∈([]:Bj) from hp) ?P,e0.hok.kept hk,?_⟩
 . exact name_of_addr x.apart (qm7 h1) (qm7 h2)
 . have hy:?eL y=?eK\/?eL y=?fY:=hy;rcases hy with hy | hy
   . exact fJ hy
   . exact ?C rfl (S.nofree _ (qm7 hy))
 . exact qd8 (x.above y c (qm7 h))
 . have hi:?pE:=by
    unfold start at h2;by_cases hi:?pE
    . exact hi
    . rw[qd6 (by simpa using hi)]at h2;rw[List.getElem?_replicate]at h2;split at h2<;>cases h2
   have ha:?kM:=by
    unfold start at h2;rw[qd1 (by simpa using hi),qa9]at h2;cases e:vs[i]? with
    | none=>rw[e]at h2;cases h2
    | some a=>rw[e]at h2;cases h2;rfl
   obtain⟨u,hu,rv⟩:=r.get ha
   have hp:ps[i]?=?c y:=by
    rw[←S.pre,List.getElem?_take_of_lt ?gU];exact h1
   have ndP:ps.Nodup:=by rw[←S.pre];exact S.nd.sublist (List.take_sublist _ _)
   refine⟨u,rv,?_⟩;rcases S.par y (qb0 hp) with k | k
   . exact ?j ⟨k,bA ndP hp hu k⟩
   . obtain⟨c,e⟩:=fJ (n:=?hA) k;refine ?y ⟨?j k,c,e,?_⟩;have q:=x.cell y c e;rw[bC ndP hp hu (by show ?eL y≠_;rw[k];decide)]at q;exact q
 . exact ?sB (qd8 (x.above y c (qm7 h)))
 . unfold start;show _=N.length;rw[qc3,qa4,ql4];omega
theorem Am4{CX:QO}[?aI][?mA]{k:Nat}{f:Addr}{name qual:Str}{params:Arguments}{body:?bT}{scope:Scope}{dV kV doc pm Dk ct oc:Value}{an od:OAddr}
 {osl:Ra}{N ps:?I}{sp:Sp} (lk:?nG f=?c ⟨oc,od,.func (?x0 ct),osl⟩) (hcd:W.codeIn K Dk ?aX=true) (S:?t7)
 (len:?rA)
 (hbody:∀[?dF] [?dC] [?b3] (H:Hp) [?b2] (Q:VK) (E:XK),Gc k (?jG (envOfC ?aX ?aO ?a7 f Dk))->?jH →
   ∃t,jX (?wB Dk) body t/\t { nx:=fun _ H'=>Q ?w H',rt:=Q } ?hP H) :
 By P w K mg ?aD CX (k+1) f (?x0 ct) ps sp:=by
 refine⟨len,fun A outer s H args us vs Q E hr e0 hb r jM=>?_⟩;have hl:=len _ _ _ _ jM;have KX:?eZ:=e0.mod.kin.keeps ?r9;have lim:s.heap.NoLimit:=e0.mod.nolimit.keeps ?r9
 have hkind:∀y∈ps.zip us,?eL y.1=?bV\/(?eL y.1=?eK/\((?tW).lookup y.1).isSome=true):=fun⟨n,v⟩ hy=>by
  rcases S.par n (qp5 hy).1 with q | q
  . exact ?j q
  . exact ?y ⟨q,?rR _ _ _ (?j q)⟩
 refine codeAny_call_function hr.depth (KX _ _ lk) rfl S.co S.gen rfl (PySem.W.codeRec_of KX hcd) (hb _ _ _ _ ?_);refine wpAny_newFunctionEnv_cells S.kind hkind fun env he s1 x=>?_;subst he;refine⟨lim.keeps x.toInCall.keep,codeAny_func ?_⟩;obtain⟨t,ht,hq⟩:=hbody A ?B s H vs Q E (hr.deeper _) jM;have I:Bl (?wB Dk) [] ?hP H s1:=LM S hr.hd e0 hl r x;refine qj8 (ht [] s1 ?hP H _ I hq) (fun fl s' hs=>?_) fun e s' hs=>hs
 have fin:∀{σ':St}{H':Hp}{v:V}[?O],Bl (?wB Dk) [] σ' H' s'->?b0->?hM->?rV :=
  fun {σ' H' v u} J rv q=>⟨v,H',J.os,J.bare,J.base,J.hok,rv,q⟩
 cases fl with
 | ret u =>
   obtain⟨v,σ',H',J,rv,q⟩:=hs;exact fin J rv q
 | next =>
   obtain⟨σ',H',J,q⟩:=hs;exact fin (v:=V.non) (u:=Value.none) J rfl q
 | brk =>
   obtain⟨_,_,_,q⟩:=hs;exact ?e2 q
 | cont =>
   obtain⟨_,_,_,q⟩:=hs;exact ?e2 q
section
variable{X:Cx}{x:Str}{p pos:Pos}[?b6][?dE]{t:TA}{id T:String}{r:?k3}
noncomputable def tCB(r:?k3)(t:TA):TE:=fun σ H Q=>t σ H fun vs H1=>r vs H1 Q
theorem Bc(hc:E6 X ?sP r)(hm:?kA)(hv:?fI=?c ?sP)[?f7](hg:?l0:=by rfl)[?i6][?i0]
 [?hX] (hpl:?dL (·.1)=false:=by rfl):?s4:=by
 ext J;refine ?y4 I;exact ?wE PyProof.Rows.callWith_builtin1
theorem Cj(hc:E6 X (?aY T) r)[?fC](hm:?kA)(hv:?fI=?c (?aY T))[?f7][?i6][?i0]
 [?hX] (hpl:?dL (·.1)=false:=by rfl):?s4:=by
 ext J;refine ?y4 I;exact ?wE qg5
universe e9
universe L2
namespace HT
open PySem PyProof.Rows
section
open PySem.SeqAt
open PySem.AutoSeq1 (wpAny_loadPart')
open PySem.MeetsSeq PySem.MeetsSeq2 PySem.MeetsSeq3
universe e9
section
variable[?mJ][?t][?Q][?b4]
theorem cat_tup{t b:Addr}{vs ws:?u}[?b1](ht:?hF ?o t ?lI)(hb:?hF ?o b ?kO)(hv:vs≠[])
 (h1:ws=[]->Q (?k t) s) (h2:ws≠[]->Q ?sX { s with heap:=?gB { cls:=?lM,data:=.seq ?qI } })
 (hsz:vs.length+ws.length<=sizeLine):?wG ?Y (?cW .Add (?k t) (?k b)):=by
 obtain⟨⟨cls,dd,data,sl⟩,ho,hc,n,hd⟩:=id ht;obtain⟨⟨An8,dd2,data2,sl2⟩,ho2,hc2,n2,hd2⟩:=id hb;simp only at hc hd hc2 hd2;subst hc hd hc2 hd2;have e:vs.toArray++ws.toArray=?qI:=?a6
 by_cases hw:ws=[]
 . exact ?sN ?sH ?n9 ?r0 ?t4 qs7 qr8 ?nX
    (tuple_addW1 t b ?lI ?kO n n2 dd dd2 sl sl2 (by simpa using hv) (by simp[hw])) ⟨ho,ho2,h1 hw⟩
 . refine ?sN ?sH ?n9 ?r0 ?t4 qs7 qr8 ?nX
    (tuple_addW2 t b ?lI ?kO n n2 dd dd2 sl sl2 (by simpa using hv) (by simpa using hw) (by rw[qc1,qc1];exact hsz)) ⟨ho,ho2,?_⟩
   rw[e];exact h2 hw
noncomputable def sIx(n d:Nat):?cI->Nat
 | none=>d
 | ?a5=>?kG
theorem sIx_none(n d:Nat):sIx n d ?cK=d:=rfl
theorem sIx_nat(n d k:Nat):sIx n d (?c ?jB)=min k n:=by
 show(if ?jB<0 then(?jB+?aV).toNat else min (k:Int).toNat n)=min k n;rw[?A ?gU,qe6]
theorem WQ(n d:Nat)(hd:d<=n)(o:?cI):sIx n d o<=n:=by
 cases o with
 | none=>exact hd
 | some v =>
   show(?kG)<=n;by_cases hv:v<0
   . rw[?aZ hv];omega
   . rw[?A hv];exact Nat.min_le_right _ _
theorem JS(v:Int)(n d:Nat):(if v<0 then max (v+?aV) 0 else min v ?aV)=((sIx n d ?dR:Nat):Int):=by
 show(if v<0 then max (v+?aV) 0 else min v ?aV)=(((?kG):Nat):Int)
 by_cases hv:v<0
 . simp only[?aZ hv];omega
 . simp only[?A hv];omega
theorem iL(lo hi:?cI)(n:Nat):?qP=(?fF,?n3):=by
 have h1:¬(?dH<0):=O9m
 unfold Builtin.Slice.sliceAdjust;simp only[h1,if_false];refine Prod.ext ?_ ?_
 . cases lo with
   | none=>rfl
   | some v=>exact JS v n 0
 . cases hi with
   | none=>rfl
   | some v=>exact JS v n n
theorem GN(i j:Nat):?lL (i:Int) (j:Int) 1=j-i:=by
 unfold Builtin.Slice.slicePlaces;have h1:?dH > 0:=O9m
 simp only[h1,if_true,Int.ediv_one];split<;>omega
theorem X3{v:Value}{o:?cI}{Q:?cI->?bJ}(p:?l5 v o)(h:Q o s):?wG ?Y (Builtin.Slice.slicePartIndex v):=by
 cases p with
 | none=>exact ?nC h
 | int i t=>exact slicePart_int h
theorem Ue{sl:Addr}{vl vu:Value}{lo hi:?cI}{n:Nat}{Q:Int × Int × Nat->?bJ}(hs:s.heap.IsSliceOf sl vl vu ?bM)(pl:?l5 vl lo)(pu:?l5 vu hi)
 (h:Q (?fF,1,?tI-?uQ) s):?wG ?Y (Builtin.Slice.sliceApplied (?k sl) (?bN ?aV)):=by
 obtain⟨os,hos,hcs,hds⟩:=id hs;unfold Builtin.Slice.sliceApplied Builtin.Slice.sliceFields;refine qa3 (qa3 (qg9 hos hds (x:=vl) rfl (qa3 (qg9 hos hds (x:=vu) rfl (qa3 (qg9 hos hds (x:=?bM) rfl ?o5))))));refine qa3 (?nC ?_);show ?xY (if (?dH==0)=true then _ else _);rw[?A ?cT];refine qa3 (X3 pl (qa3 (X3 pu (qa3 ?o5))));show ?xY (match ?qP with | (lo,hi)=>?bN (lo,?dH,?lL lo hi 1));rw[iL lo hi n];show ?xY (?bN (?fF,?dH,?lL ?fF ?n3 1));rw[GN];exact qb4 h
theorem NT(xs:?b7)(i k:Nat):((?nZ k).filterMap ?o9).toArray=((xs.toList.drop i).take k).toArray:=by
 have e:(?o9)=?o4:=by
  funext m
  have:?tX=i+m:=O9m
  rw[this]
 rw[e];have:=pick_run xs i k;rw[List.filterMap_map]at this;have e2:((fun x=>xs[x]?) ∘ fun x=>i+x)=?o4:=rfl;rw[e2]at this;rw[this]
end
mutual
#check(4,[?a,?b,some,∀(K:W.Frag),a,.inr,.int,.ref,.lst,.inl,?m V,?m Int,X.env,List,if_pos,.(by simp at hf hg;subst hf hg),decide,.tup,Reps,∀(I:?bW),a,∀(hK:X.K=K:=by rfl),a,∀(H:Hp)(Q:VK),a,Fd fam w,?f i,?m ?d3,?m D,?c v,its.toArray,if_neg,wpAny,(?I),pure,p.isList,s.heap.objs.size,absurd,.(by simp),(by omega),.builtin,.seq,?g a,?y2 w,.str,(?fQ ?cK X.w),none,.nil,?X ?aH,.non,H p=none,.cons,bootBuiltins,.type,?aM H H',∀{Ac:Bj}{σ:St}{H:Hp}{s:Shared},a,.(by decide +kernel),∀(w:?k),a,.(by simp<;>omega),∀(xs:?j),a,.(by ext a0),(?b6),xs.length,sIx ?lP 0 lo,Vals,?c o,?c .cell,List.replicate,?c j,(?bT),(i+1),"int",Hp->Prop,"list",CH h0,I.tuple,V.int,I.list,Same,deps ds,[a,b],?c c,Pv i ys τ H,?aL hq,.(by ext a2),fam<0,true,(.ListComp elt [⟨tg,iter,ifs,0⟩] sc pos),Option,?i z,(?lH),?xP v d,I.kIn,?m Str,"tuple",_::_,(?h ys),?d2 ?a6 0 lo,?g p,?xT vs ds,X.xe,∀(x0:A0) (x1:A1) (x2:A2) (x3:A3) (x4:A4) (x5:A5) (x6:A6),a,.(by obtain⟨a,vs,rfl,q,r⟩:=hy;cases ry),.(by cases (show V.ref a=_ from h')),.(by simpa using this),∀{ws:At}{fam:Int},a,∀{K:W.Frag},a,?m (Str × Addr),qb9.mp,name,(?h []),?aW Int,?c .free,?q ds,?j->?x0 Hp VK,[a,b,c],d::ds,?g ?G,(?M),sIx ?lP ?lP hi,w::r,qa1 _,?xO a xs,.bl b,Bl X Ac σ H s,(n,k),?X ?b2,∀(h0:p0) (h1:p1) (h2:p2) (h3:p3) (h4:p4) (h5:p5),a,∀{vs:?j}{ds:?y},a,.(by have e:¬?eM:=O9m),∀{us:?x},a,∀{ns:?k},a,.(by rw[qc1,←hl]),∀{w:?k},a,∀{xs:?j},a,∀(x:V)(y:V),a,∀{fam:Int},a,RelV x v,St->?aG,?h5 x px,(Fj ns),List.range,qa2.mp,.none,f∈ws,Ju xs lo hi,?i rfl,H l=?c (?h xs),X.prog,?m Expr,(O9m),(fun z=>?lF),0<fam,(?g D),(ys++[y]),s.heap.get?,?c x,.bool,(?p6),pl.isList,zY K a,qual,(?N),0<=i,false,lv fam w,HT.sIx,Value,"bool",.(by cases (?x7 ?bV);cases (show v=?gP b from ry)),.(by cases (?x7 ?T);cases (show v=Value.none from ry)),.(by simp only[qb9,qe9,or_false]at hf),∀(Ac:Bj) (s:Shared) (σ:St) (H:Hp),a,∀(ns:?k),a,∀{x:?k},a,xs=[?b6],pJ h0,Q ?a5 H',?r X.K H vs ds,(?s4 .Add),?c w,I.laid,?d2 ?a6 ?a6 hi,(?cI),x∈acc,c.nocell,CC ws f,v=?M,(a:Addr),V->?bM,.function,?B ?J,E3 ws rows,below,?a8 xs us,xs[i]?=?cS,(xs.length:Int),ns.map,LT K H ?bQ xs,T4 H H',(?xP x d),(VM X H d),call_meets,SameX,(n:Int),2 ^ 63,⟨_,e,rfl⟩,(e::es),?m α,?f b,(x=?M),r.get,Pv ?aE,V->?bJ->?bJ->?x0 Hp VK,eqDs a b,(by ext f0),?h ds,"str",i<=xs.length,cD ?fG H,(?cT ?aU),pK h0,fam=0,?B ?D,sI.names.lookup,C0 ws acc fs,?m Addr,(EP X Ac σ Q),"enumerate",∀{K:W.Frag}{a:Addr}{xs:?j}(Pv:?j0)(h0:?tR),a,∀{X:Cx}{sc:Scope}{N':?b1}{cap:?m (?aW Nat)},a,∀(hd:?y9 ?a6),a,∀{te:TE}{D:Addr}{Q:?aG}{τ:St}{H:Hp},a,.(by intro Ac s σ H x y v u Q I rx ry h),.(by obtain⟨_,_,z,_⟩:=h';cases z),.(by intro Ac s σ H xs us Q I r h),.(by simp only[qc1]<;>omega),.(by intro Ac s σ H Q I h),.(by obtain⟨t,rfl⟩:=ry),.(by have e':¬?aT:=O9m),∀(lo hi:?bJ),a,∀{fp:?eQ},a,∀(p:?k),a,∀(ds:?y),a,∀(fs acc:At),a,∀{vs:?j},a,{ cls:=?S,data:=?L ?A n },a.length=b.length,"isinstance",i<xs.length,Dl K H a xs,Wl X sc N' cap,s₁.heap,K.lookup,IntsAre vs ns,?tD ?aD,qc6 h1,?m (?mK),qb2 e,sc.names,{ cls:=?S,data:=?L ?kZ },(?N).map,model,ds.any ?pD,hf b hb,xs.getD,H l=none,bs[i]?,(?kM),?aJ hq,.(by simpa using hb),False.elim,?l8 es ?l,qc0 _ rfl,?g l,True.intro,cells.lookup,h2 f hf,?xO a ?fW,I.hok,Str->?aW ?d3,qa5 _ e,Fl X sc N' ?iR s H fp,Obj.mapSeq,ForInStep.yield,(?g it),.(by simpa using hx),rv.get,(x=?g2),qa8 _,(c.cells I.ok),(?nL),k.toNat,s.heap.update,getItem,?d1=0,X.env.kindOf,Value.bool,?m L2.D,.(nomatch h),?a8 vs us,ht.typeIs,hf b hb',(d:L2.D),(?bP),(Au st),(x:V),s.heap,(?dB),W.fnOf x ?cX (Ip st) (Gj st) ?gX ?cF kV doc pm an Dk ct,fun b hb=>?_,?f n,"dict",.Name,(?cE hi).1,env.cells,s'.heap,(?fE),Ar t u D σ H,codeAny,fun b ob q=>qa5 _ q,fun _ _=>False,.(by cases (?x7 ?w);obtain⟨t',rfl⟩:=ry),.(by cases (?xS z);obtain⟨t',rfl⟩:=ry),.(by obtain⟨b,ws,rfl,q',r'⟩:=hy;cases ry),.(by obtain⟨b,ws,z,q',r'⟩:=h';cases z),.(by (ext eY)),.(by obtain⟨its,_,p,_⟩:=?aJ q),.(by obtain⟨its,_,p,_⟩:=?aL q),.(by rcases ?bG hb with rfl | hb),∀(x7:A7) (x8:A8) (x9:A9) (Rb:kH),a,∀{P:Program}{w:World}{K:W.Frag},a,.(by rcases ?bG h with e | e),.(by obtain⟨a,vs,e,q,r⟩:=h),∀(r:?dP),a,∀(hf:∀b∈fp,Qs X Ac H b),a,.(by have e:?y8 i:=O9m),∀(cap:?m (?aW Nat)),a,∀(x0:A0) (x1:A1) (x2:A2),a,∀(hu:X.A.units+n<cLine),a,∀(c:?fF),a,∀(a:?qE),a,∀(hc:?nR),a,∀(its:?x),a,∀(ws:At)(fam:Int),a,∀(h:?r8),a,∀(x:?Y),a,eqD e d,fun x H' y=>?_,seqIndex_neg,j<xs.length,?l8 ?e7 ?l,its.toArray.size,H b=none,.(by ext lW),Array ?d3,its.toArray.size*k.toNat,∃a b c,w=?bN,?bJ->?aG,Md.new _ _,v9 X.env.cells ?fN [],if c then A else B,?y0 ns,Dl X.K H p ys,acc++its,[e,it],?eO p.1,∀f∈?N,?cG,s₁.heap.Ns,.(by simp[Fj,eqDs]),q _ (?fJ),H2.objs.size,sp vs H Q E,if w∈ws then ws else ?j5,.FunctionDef,(x,NameKind.free),ys.length<sizeLine,?cR b=?a9,Na ws fam,⟨xs,q,?bT⟩,Nat->?q0,?B hz,fun _ _ _=>False,At->At->At,Pv i σ H,ws++[w],n=?aF\/n=?d4\/n=?eH\/n=?b2\/n=?aH\/n=?h4,kk b o (bV b hb).1 (bV b hb).2 z,A.units+1+?aN<cLine,X.env.scope,W.keepIn K (?g f)=true,⟨h0,?_⟩,w.drop,s.TypeIs,i.toNat,eqDs_refl,H4 D=?c ?b4,imms ds,?xO p ys,its.length,typeIs_int,H D=none,.(by simp[h]),(n,NameKind.cell),d0::ds,s.heap.push,seqIndex_of,(n,NameKind.free),sc.names.all,?aM H H1,⟨_,rfl⟩,Di ?rT,sliceBounds lo hi ?Q n,fun _ _ z=>z.elim,Fd fam v,backTo,x∈ws,D->Bool,H ?G=none,x∈?eP,(?kH)=true,⟨a,b,c,rfl⟩,x∈?kO,.(by simpa using hk),ds[i]?=?c d,Dl K H p ys,fun f=>(?dM:Int),p.getD,.same _,?d3->?u6,IsPart,⟨e,?_⟩,?bX::r,?xJ k,?x4 e,s3.heap.objs.size,qa0 hj,c.kind,?dX ?aK,H p=?c (?h xs),?xZ acc l,⟨_,ho,rfl⟩,p'.isList,?c (?h us),fun _=>none,Reps.same,ws.findIdx,Rep X.K H x d,Rep.inj,.(by simp at h),Or.inr,vs.toArray,_::_::_::?b3,Rep X.K H v e,(xs:At),?B hk,[a,b,c,d],if ?pG/\f ∉ acc then acc++[f] else acc,relabel sc ?l,.(nomatch hf),starEach,N'.zip cap,fun τ2 H2=>tc τ2 H2 fun b H3=>if b=true then te τ2 H3 ?uV else Pv ?aE ys τ2 H3,?n ?D,(?tL).symm,List.foldl,callerA,.(nomatch z),(?jZ cpos (?g0)).any,xs.map tI,SqL X.K H p ys,?f fam,x.2≠NameKind.cell,s.heap.objs.size<=C,w.length-1,?jR∈sc.names,X.env.cells.lookup,items.size,{ s3 with heap:=s3.heap.push { cls:=?X "slice",data:=.fields #[vl,vu,?cF] } },-?e4<=i,.(by rcases Rc h with⟨h0,⟨a,rfl⟩|⟨a,b,rfl⟩|⟨a,b,c,rfl⟩|⟨a,b,c,d,rfl⟩⟩|⟨h0,rfl|⟨a,rfl⟩|⟨a,b,c,rfl⟩⟩|⟨h0,rfl|⟨a,rfl⟩|⟨a,b,rfl⟩|⟨a,b,c,rfl⟩⟩),.(by refine ?xR ?sV ?r3),.(by refine⟨fun i m ys τ H=>m=xs.length-i/\?eI/\?aQ,?uR,?_⟩),.(by have l1:=r.length;have l2:=r'.length;have l3:=rv.length;have l4:=DZ.length),.(by unfold Aw;rw[?dR,?eN,?dR];rfl),.(by have hc:(i=0/\j=1)\/(i=0/\j=2)\/(i=1/\j=2):=?n3),.(by obtain⟨its,r',pl,hz⟩:=?aR;have hlen:=r'.length),.(by rcases hc with⟨rfl,rfl⟩|⟨rfl,rfl⟩|⟨rfl,rfl⟩),.(by intro Ac s σ H x v vl vu lo hi sl Q I rx hs pl pu h),∀(hl:∀i ys τ H,?eI->?aQ->?bU),a,∀{prog:Program}{w:World}{A:Around}{E:?kD},a,∀{t u:TS}{D:Ends}{σ:St}{H:Hp}(P:?cA),a,.(by cases rx;obtain⟨u,rfl,ru⟩:=rv.one),.(by intro Ac s σ H x vs v us Q I rx rv h),.(by obtain⟨z,its,n,r,hl,e⟩:=I.lstM hH),.(by obtain⟨its,r',pl,hz⟩:=?fX),.(by show X.A.units+1+?aN<cLine;omega),.(by by_cases hk:?k4),∀(hu:?r0),a,∀(x:V)(lo:?bJ)(hi:?bJ),a,.(by have z:b=it:=?fY),.(by cases (?yC vs [])),∀{c A B:Prop}[Decidable c],a,∀(hz:?sR),a,∀(h0:p0) (h1:p1) (h2:p2),a,∀(sc:Scope)(N':?b1),a,∀(h:?b7),a,∀{B:Addr}{H H1:Hp},a,Str × NameKind,Ib.mpr rfl,?xG n,fun i=>(?fV).getD ?aU,.str_list c t ?F O9m,us'.toArray[j],⟨_,hen⟩,(?l6).names.lookup x=?aA\/(?l6).names.lookup x=?bK,?cR p=?c ?fA,.(by ext w5),.int_tuple c t p O9m,Builtin.List.listTooLong,I.cell x a (ltc x a e),compPost,∀d∈ds,?r7,(vs=[x]),?x3 ?G (?q [?w,x]),I.ok.bsz,∀b∈fp,?n5,.(by simp at hj;omega),?H rfl z,b<s.heap.objs.size,.none_tuple p O9m,?f i s.toks,hb b hb',subscriptTail,q _ I.fresh,hA b (by rw[q];simp),FU x vs H Q,UA ?j9 X.N sc N' cap=true,?pH b=?a9,?oJ i ?a6,⟨_,ho2,rfl⟩,t σ H Q,.(by simpa using q7),fun f hf=>?_,n<=1000000,IG cap σ,(?N).length,?d2 ?jJ 0 lo,?yL kD,.(by rw[Aj (Tb b _ z)];exact z),∃t,jX (IE Ej P w K mg base N ?cX ?gX f Dk A outer s H E).nox (Gj st) t/\t { nx:=fun _ H'=>Q ?T H',rt:=Q } (start N vs) H,X.calm=true,pl.isList.typeIs,Rep K H' v d,.(by simpa using e),env.scope.kind==?dQ,QI K xs H Q,fun r s'=>r=w/\?y1 r s',slot_list_getitem.lookup,h₁.get?,?y->Bool,xs[f.toNat]?=?c q,((?a7:Nat):Int),?y2 ?bN,?fT ?jE [],xs.eraseIdx,?xW (k+1),fun p hp=>?H hp (by simp[Fl]),?a8 ys its',JY K xs H Q,Nv ws fam n layer rows,I.list_inj,⟨o,ho,hd⟩,?g4 x=?aP,w.length=3,(its.toArray.size:Int),⟨main,?_⟩,.str_str c t z t',.(by simpa using h),seqIndex?,.tuple_int i t' p O9m,us.toArray[j],?tH I r r',Gc k (A.deeper (envOfC ?cX ?gX ?G f Dk)),?iV∈sc.names,I1.hok.fresh,(i+n).toNat,P3 ws w fam,?yL vW,.compLoop,call_list_seq,.list_int i t' ?F O9m,?xG xs.length,.(fun _ e=>nomatch e),tN.extBut,{ s with heap:=h₁,toks:=s.toks+([]:?m (Str × Value)).length },M8 K fd ps [],?cR l=?c ?fA,hf it ?D,Or.inl rfl,w.length=0,eq_of_beq,.(by decide),fun _ _ z=>no z,vX K n neg x y H Q,h'.objs.size,.str_int c t i t',?yK (?q ys),x.2=NameKind.local->sc.names.lookup x.1=?c NameKind.local,fun e=>?i3,?a8 xs its,.list_bool b ?F O9m,f ∉ ws,s₁.heap.get?,?aB k xs,(σ[j]?).join,q p _ (Same.new hp) (.of Ab),"__getitem__",eqDs (Fj a) (Fj b),congrArg,?x0 Nat Heap,.tuple_str z t' p O9m,?y2 f,subscriptTail_builtinR,TI K H' v ns,.int_list c t ?F O9m,cap.length=N'.length,?aW Expr,Rep.same,Fl X sc N' C s H fp,r x xs H Q,I7.pin (b,o) (qf9 _ (qf9 _ (Nt hb e))),?j->?cA,s1.heap.objs.size+1,?xZ [] l,qK K xs H Q,D.nx σ H,(uJ lo n),Subscript_,fun w=>w==f,(Zw ?gI),H b=?a9->H' b=?a9,∀C s₀ H₀ fp,zX (?x9 C) ifs tc,(?jZ cpos (?i7)).all (fun x=>!x.1)&&(backToKw cpos (keywordEach [] ?l)).all (fun x=>x.1.isSome),Er K x ?cX st f fd,qd9.mp hf,?e3 B H H1,vU K x lo hi H Q,w.length=1,?wO qb4 ⟨_,rfl,qb4 h⟩,.bool_tuple c p O9m,?y0 p,.list_none ?F O9m,fun v s1 _z=>?_,jZ x vs H Q,tn 0 ?gZ,.(by rw[hC];exact qm8 _),fun τ2 H2=>te τ2 H2 ?uV,env.kindOf n==?aA,⟨h1,?nJ⟩,(zD K a),j8 _ _ z,wpAny_comprehension_free,.list_str z t' ?F O9m,(?aB k its).flatten,eqDs_len,4*l.length,.(by simpa using hv),∀σ' H',?u3->u D σ' H',(n,(env.cells.lookup n).getD 0)::acc,qN K R vs H1,⟨xs.length-?aE,O9m,rfl,hlt,p'⟩,Qi _ _ hv,.bool_str c z t,.int_bool c t b,EqD X H s d,JX fam ws,KA K n x vs H Q,⟨?f ys.length,H,I.tok _,⟨?uS,by rw[qc1,hlen]⟩,q⟩,?c (?z),Dl K H a ?fW,⟨f,h,?I⟩,∀vs H Q E,?iS->vs.length=ps.length,.Subscript,{ cls:=?S,data:=?L its'.toArray n' },Bl X Ac σ H' s',.bool_list c ?F O9m,ds[j]' ?cM,"list.index",assignEach es ?l,PE X e te,its.toArray[m],?m Bool,.of_refs hab main,?hB (?fQ P w) ?lE (.call (?g fa) ⟨[?M],[]⟩) (fun r s'=>r=.ok (.ret ?eK)/\OldK ?fG ?h8/\s'.os=s₁.os/\?uM) s₁,{ s with heap:=h' },mainGlobals,ds.length,Nat->?cA,Bl Y [] τ' H' s',.(by simp[eqDs]at h),ws[k]?=?dG,dep d<=?aN,X.N[i]?=?cS,QE Q x H1,subscripted,fitsIndex_both h1 h2,xs.take k,binaryOp,fS K xs H Q,⟨rfl,fin⟩,?kE vl lo,?a8 ys its,.list_tuple ?F p' O9m,.Pass ⟨0,0,0,0⟩,?f (j:Nat),sc.kind=?dQ,?xO a us,.none_list ?F O9m,qI o i v H Q,?kE vu hi,.(by ext wB),∃c,env.cells.lookup n=?aP,W.codeIn K Dk ?cX=true,s.heap.IsSliceOf sl vl vu ?cF,b≠e/\b≠it,?p (?cZ),.str_bool c t b,(?o2==0&&(1:Int)==1&&(?bR-?a7)==items.size)=true,PE X l tl,a b _ (?yG h) e,?xG ys.length,Result->?u6,VU x y H Q,⟨o,e,c⟩,⟨xs,xs[i],q,by simp[hlt]⟩,A.units+?aN<cLine,Nv ws fam 4 [w] [],?yK ?b4,?xH (call (?K id) (v::us)) ?eR,(zE K a),(x==("__debug__":Str))=false,?yL QJ,.tuple_list p ?kQ O9m,∀C s₀ H₀ fp,PE (?x9 C) elt te,Dl K H' a xs,hd ys τ H p,concat_meets,j8 _ _ hc',PA X ?e7 t,i.toNat=j,.(by rw[qc3];exact hz),(sizeLine:Nat),I.hok.fresh,∀x∈sc.names,?lK,?xO p xs,fun z=>?_,Reps.inj,s.heap.objs.size+1,.(fun _ _ _ z=>by ext w6),fun a e=>?_,qc6 this,?yL VW,Vis ?j9 x,?m WData,Q ?cP H',Heap.get?_update_other,Pv 0 [] τ H,I.ok.hd hc,fun o=>o.bind fun j=>?pJ,fun m hm=>hl m (qc5 _ hm),ih _ ?tU,?kW I hx' hy',.bool_int c i t,?p (a=b),ns.length<=n,.tuple_bool b p O9m,QH K x lo hi H Q,.tuple_none p O9m,P σ' H',qa6 (Wd xs lo hi) hz,cV ?rT&&ds.all (fun e=>Dg xs e (?jV-1))&&(?p (?jV<2) || Mc xs (ds.map UO)),Shared->Prop,.int_int c t i t',?g7 p _ hk,.(by rw[Aj (Tb c _ q)];exact q),H' p=?kR,(a+b)%fam,fun _ s'=>SP X Ac D .next s',pre_splitW hpre,(?e5-1) / 8,VT K x lo hi H Q,.str_tuple c t p O9m,Zm ds es hl,?yL qJ,fun x a e=>?_,qc5 _ hv,F.slot_int_rmul,AllBare s'.gens,(vs=[y]),eval o ?l,.int_str c t z t',∀C s₀ H₀ fp,PG (?x9 C) tg g,⟨?a6,?I,?gH,h0⟩,s.toks+1,(! ?p (?aK a=?aK b))=true,c.locals,fun y H4=>?jG/\?iW/\Pv ?aE ?cQ τ2 (upd H4 D (?h ?cQ)),?r K H' vs ds,(fam:Int),(ns:?k),fT K xs H Q,(eqD d e),N σ' H',∀(hs:?xN ?lA),a,∀(hs:?xN ?qP),a,∀(hg:?uQ) (ht:?qA) (he:?t4),a,.(by obtain⟨j,h1,h2,h3,h4,h5⟩:=jV he;obtain⟨w,ew,rw'⟩:=?eB h2;have hl:=r.length;have hn:=BX;have fin:?y1 w s:=⟨z,H,I,rw',q⟩),.(by have I3:?rH:=I2.call' hos hun hok hbare (Bl.fpCh f2);have f3:Qs X Ac H' C:=I2.fpOk hC hHC;obtain⟨_,k1,_,k3,k4,k5⟩:=f3),.(by intro value slice Ac s σ H x y v u Q I rx ry h hs;obtain⟨p,xs,i,z,rfl,rfl,hq,he,q⟩:=h;cases rx;obtain⟨t,rfl⟩:=ry),∀(pa:PlainAttrs T)(slot:Slot T ?bH id)(hty:typeOf (?K id)=?E (?X "method_descriptor"))(hm:MtR X id r)(ho:PE X o to)(ha:?t9),a,∀(hline:(apos.endLine==cpos.line)=true:=by rfl) (hs:?i7=(?d0,eval e ?l)::?g0:=by rfl),a,.(by have hc:(i=0/\j=1)\/(i=0/\j=2)\/(i=0/\j=3)\/(i=1/\j=2)\/(i=1/\j=3)\/(i=2/\j=3):=?n3),∀{x qual:Str}{st:Stmt}{f:Addr}{fd:FuncData}{N ps:?b1}{k:Nat}{sp:Sp}(F:?qC)(S:FnScope N ps ?gX),a,.(by rcases hc with⟨rfl,rfl⟩|⟨rfl,rfl⟩|⟨rfl,rfl⟩|⟨rfl,rfl⟩|⟨rfl,rfl⟩|⟨rfl,rfl⟩),.(by simp only[sliceBounds,HT.sIx,Option.getD_none,show(1:Int) > 0 by decide,if_true];by_cases h:i<0),.(by intro X hP hw hK hc i Ac s σ H E I hf st hg;subst hP hw hK;obtain⟨⟨old,h1⟩,h2⟩:=st),.(by cases rx;cases ry;obtain⟨its,r1,p1,_⟩:=?aJ ha;obtain⟨its2,r2,p2,_⟩:=?aJ hb),∀{o e:Expr}{es:?cL}{to:TE}{t:TA}{name:Str}{apos cpos:Pos}{T id:String}{r:?dP},a,.(by rintro i m ys τ H ⟨rfl,hi,p⟩;have q:=hl i ys τ H hi p;by_cases hlt:?fD),.(by refine⟨⟨o,e,ex.1⟩,fun a e2=>?_⟩;cases e2;exact⟨o,e,ex.2.1⟩),∀(Dk:Value) (A:Around) (outer:?m Env) (s:Shared) (H:Hp) (vs:?j) (Q:VK) (E:XK),a,∀(h:∀{N:?cA},(∀σ' H',?u3->?v1)->t { D with nx:=N } σ H),a,∀(hc:?nR)(hcap:?nD)(hi:PI X tg iter wi),a,∀{x:Str}{ps:?b1}{j k:Nat}{sp:Sp}{p pos:Pos}{e:Expr}{es:?cL}{t:TA},a,.(by obtain⟨_,_,_,_,o,_,_,e,ex,_⟩:=?u8;exact⟨o,e,ex⟩),.(by obtain⟨p,ys,rfl,hq,q⟩:=h;obtain⟨u,rfl,rx⟩:=Sk r;cases rx),.(by have hu':?j8:=by simp only[dep]at hu;omega),∀(h6:p6) (h7:p7) (h8:p8) (h9:p9) (h10:p10) (h11:p11) (h12:p12) (h13:p13),a,∀(hbase:attributeBase o ?bH ?l (?uO)=?uO:=by rfl),a,.(by obtain⟨e,y⟩:=y;subst e;exact hs i x ys τ _ (y xs q) p),.(by obtain⟨oc,od,kV,doc,pm,an,Dk,ct,osl,rfl,lk,hcd⟩:=F.ex),.(by refine ?qR;rcases ?g5 with z | z | z),∀(hs:∀x,foldedSetIterable iter ?l x=?E x:=by intro _;rfl),a,.(by obtain⟨it,fp,tn,J,H2,e,I2,T,st2,f2,hW⟩:=h2;subst e),.(by subst e;exact ?i ⟨?iZ,?t6⟩),∀{lo:Int}{n:Nat}(Pv:?j0)(h0:?tR),a,∀{tg elt iter:Expr}{ifs:?cL}{pos:Pos}{g:TG}{tc:TT}{te:TE},a,.(by have e2:its'.toArray.size=es.length:=?aS),.(by have e1:its.toArray.size=ds.length:=?aS),.(by have hx':=hx;obtain⟨a,vs,rfl,q,r⟩:=hx;cases rx),∀(hl:∀i ys τ H,?eI->?aQ->?fE),a,.(by simp only[qb9,qe9,or_false,or_self]at hf;subst hf),.(by unfold Aw;rw[?dR,?lB]),.(by obtain⟨p,ys,a,b,c⟩:=z;exact⟨p,ys,a,b,c⟩),.(by exact qc5 _ (ih (fun y hy=>hn y (qc5 _ hy)) h)),.(by simp only at hc hd hc2 hd2;subst hc hd hc2 hd2),.(by simp only[eqD];by_cases hl:ds.length=es.length),∀{l:?fL}{acc:?bF},a,.(by rw[Aj (?yG h)];exact e),.(by have hk':k=NameKind.free:=?k7),∀(r:?eD),a,∀(hb:?n2),a,∀(hd:?y9 n),a,∀{cells:?bF}{x:Str},a,∀{mg:?g8}{base:Heap},a,∀(v:Value) (us:?x) (Q:VK),a,∀{es:?cL}{x1:Nat}{tpos:Pos},a,∀{x qual:Str}{st:Stmt}{f:Addr},a,@(Sh ?a g ?b te D Q τ H),@((sc.names.map fun ?bX=>if (k==.free&&sI.kind==?dQ&&?eO n==?aA) then ?jN else ?bX).lookup p.1=?a),@(∀p,?U->Q ?a5 (upd H p ?a)),@(qa3 (m:=Builtin.Tuple.tupleExact _) (qk9 (?a ?b) jL)),@(?p ((e::es).length+([]:?m Keyword).length+(if ([]:?m Keyword).isEmpty then 0 else ?a)<30)),@(NB I (A:=A.in1) (by show ?j8;omega) r r' rv DZ (eqDs_ok I ds) fun d h=>Xj ?a),@(qn3 ?a ?b0 ?b k ?cN fin),@((items.toList.drop (?a7)).take (?bR-?a)),@(show ?a b=_ from h'),@(X.env.scope.names.lookup ?a),@(PE X (.Call (.Attribute o ?bH apos) ?e7 [] cpos) (tBM ?a T r to t)),@(?dH (t':=s.toks) (o:=?a ?b) (?hC) ?aD ?_),@(?oU p ?a ho hc hd (fun h' c' kp e=>fin its r' hz h' c' kp e) ?eF),@(?lD (fun x1 x2=>x1++x2) #[] (?aB ?a ?A)=(?aB ?b its).flatten.toArray),@(Df (hi Ac s σ H _ I ?a) fun v s1 h1=>Df h1 fun itv s2 h2=>?_),@(?a->?b->Prop),@(fun x y H Q=>?a),@(?a ?e1 ?b (HR I (A:=X.A.in1) (by ext m8) hx rx r rv) (fin r rv)),@(upd H ?a ?b),@(Gw ?gI (fun z=>by simp at z) ?a),@(?a Pv h0 hl (fun i x ys τ H e p=>hs i x ys τ H e p) hd),@(Q (.bl ?a) H),@(show y=?a from hy),@(by subst hK;exact ?a ?b),@(Fl X sc N' ?a s₀ H₀ fp),@(Classical.propDecidable ?a),@((ws.map tI).findIdx? (fun e=>eqD e (tI f))=?a (?b)),@(∀i ys τ H,i<n->?aQ->g (?f (lo+i)) τ H ?a),@(fun y H4=>?jG/\?iW/\N ?cQ ?a (upd H4 D (?h ?cQ))),@((?a (?b5)).take (?dI-?b5)),@(tn i ?a/\(∀b∈fp,H' b=none)/\W i ?b ys τ' H'),@(?a<=sizeLine),@(?C ?P X.A ?a ?b ?b8 s),@(OpR X (compareOp .NotIn) (Af0 ?a n ?aU)),@(?a==NameKind.free),@(xs.length+?a<=sizeLine),@(fun xs H Q=>?a),@((?a).length<=acc.length+?b),@(∀i x ys τ H,?dV->?aQ->g x τ H ?a),@(SqL K H ?a ?b),@(Rep K H ?a ?b),@(OpR X ?dF (?a ?b)),@(?e ⟨?a,?eC,fun ys' τ' H' p'=>?b,?i4⟩),@(show y=?O ?a from hy),@(?r K H ?a ?b),@(?c (assign (?cB) ?a)),@(RcAt A s ?bQ (?g b) (eqD (?a) (?b es))),@(By P w K mg base Ej ?a f fd ps sp),@(?fH f=?c ⟨oc,od,.func ?a,osl⟩),@(fun x lo hi H Q=>?a),@(?dT ws fam ?a ?b),@(TI K H v ?a),@(EP X Ac σ Q ?a ?b),@(Aw ?a fam),@(?jS (fun x=>?p ?a)),@(?c { cls:=?S,data:=?L #[] ?a }),@((∀p H',?Y->Dl K H' p ?a->?dD)->?b),@((v9 cells l acc).lookup ?a=?aP),@((?fT (?kB ?a 0).toNat []).getD ?b 0),@(?a=xs.length),@(∀ys τ H,Pv ?a ys τ H->Q H),@(by subst hK;exact(?a).imp ?tJ),@(show x=?a from hx),@(show ?a=?b from h),@(qj8 ?a (fun r s4 _z=>?_) ?jX),@(qa3 (wpAny_standAt (qa3 ?a))),@(by rw[hk];exact⟨_,I',?a⟩),@(Eu e ?a (by intro z;cases z)),@(E6 X (?K ?a) ?b),@(fun acc C=>?mX ?P X.A ?b8 ?a ?b acc C),@(⟨?bP,_,?wW ?a (?cH),rfl,?iQ⟩),@(∀l,?fU->Q (?g2) (?x3 l ?a)),@(?a K x y H Q),@(∀p ys,?h0->((?jI\/?k9))->?a->?b),@(?E (v9 ?h7 ?a ?b))])
theorem getItem_tuple_cut{t sl:Addr}{items:?iB}{vl vu:Value}{lo hi:?bJ}{Q:?kD}(ht:IsTup ?gZ t items)(hs:?sK)(pl:?s7)(pu:?sG)
 (hw:¬(?a7=0/\?bR=items.size))
 (h:Q ?gW { s with heap:=?jP { cls:=?bY,data:=?L (?wS ?a7).toArray } })
 (hsz:?xG items.size):?C (?fQ prog w) A (?gM (?g t) (?g sl)) Q E s:=by
 have jL:sizeOk (?L (?wS ?a7).toArray):=by
  show(?wS ?a7).toArray.size<=sizeLine;rw[qc1,qc9,qi6,qu9];omega
 have hj:?bR<=items.size:=WQ _ _ ?aD hi;obtain⟨os,hos,hcs,hds⟩:=id hs;have hTs:?jD (?g sl) "slice":=⟨os,hos,hcs⟩
 unfold getItem
 try with_reducible refine qm6 ?_
 first | refine qa3 (qb4 ?_) | skip
 refine qa3 (wpAny_sequenceKey ?gT ?cU ?_)
 refine qa3 (wpAny_callSpecial?_slot (name:=Str.ofString ?pL) ?gT qv9
  (qk1 qv9 ?gT entry_tuple_getitem ?_ (args_tuple_getitem _ _)))
 show ?C _ _ (Builtin.Tuple.tupleItemsOf (?g t)>>=_) _ _ s;refine qa3 (tupleItemsOf_ ht ?_);refine qa3 (wpAny_typeOf hTs ?_);rw[?n ?cU];refine qa3 (Ue hs pl pu ?_)
 have hno:¬(?sO):=by
  intro q;rw[qc2,qc2]at q;have q1:?o2=0:=?p5 q.1.1;have q2:?bR-?a7=items.size:=?p5 q.2;exact hw ⟨O9m,O9m⟩
 show ?C _ _ (if ?sO then _ else _) _ _ s;rw[?B hno,NT]
 first
  | exact ?qH
  | exact ?wO qa3 (qb4 (qb4 ⟨_,rfl,qb4 h⟩))
  | exact qa3 (?wO qb4 (qb4 ⟨_,rfl,qb4 h⟩))
  | exact qa3 (?qH)
universe e9
universe HT
namespace L2
open PySem PySem.Spec PyProof.Rows
noncomputable abbrev TO:=St->?x0 Hp (?iE)
noncomputable def PO(X:Cx)(e:?pV)(t:TO):Prop :=
 ∀[?d8] (Q:?iE),?bW->?nH →
   ?xH (evalPart e ?l) (fun u s'=>∃o H',?rH/\?kE u o/\Q o H')
noncomputable def rA:TO:=fun _ H Q=>Q ?Q H
inductive QE(Q:?iE)(x:V)(H1:Hp):Prop
 | mk:∀i,(x=?w)->(Q (?c i) H1)->?s0
noncomputable def Ac5(t:TE):TO:=fun σ H Q=>t σ H fun x H1=>?s0
section
variable{X:Cx}{e:Expr}{te:TE}{lo hi:?pV}{tl th:TO}{pos p2:Pos}
theorem Gf:PO X ?Q rA:=by
 ext f1;rw[evalPart_none];exact qb4 ⟨?Q,H,I,?cF,h⟩
theorem E9(h:?rM):PO X (?c e) (Ac5 te):=by
 intro Ac s σ H Q I hw;rw[evalPart_some];refine Df (h Ac s σ H _ I hw) fun u s1 _z=>?_;obtain⟨x,H1,I1,r1,q1⟩:=_z;obtain⟨i,rfl,q⟩:=q1;obtain⟨t,rfl⟩:=r1;exact⟨?c i,H1,I1,?f i t,q⟩
noncomputable def ZW(X:Cx)[?wD]:Prop :=
 ∀[?d8] (x:V) (v vl vu:Value) [?f4] (sl:Addr) (Q:VK),?bW->?c9->?sK->?s7->?sG->r x lo hi H Q →
   ∃T id,typeLookup (?X T) ?pL=?E (?c (?K id))/\?jD v T/\?xH (?gM v (?g sl)) ?eR
noncomputable def tSl[?wD](te:TE)(tl th:TO):TE:=fun σ H Q=>te σ H fun x H1=>tl σ H1 fun l H2=>th σ H2 fun u H3=>r x l u H3 Q
theorem Eo{r:?eD}(hr:ZW X r)(he:?rM)(hl:PO X lo tl)(hu:PO X hi th):PE X (?rF e (.Slice lo hi ?Q p2) pos) (tSl r te tl th):=by
 ext f1;refine ?q6 (Df (he Ac s σ H _ I h) ?qL);obtain⟨x,H1,I1,r1,q1⟩:=_z;refine wpAny_Slice (Df (hl Ac s1 σ H1 _ I1 q1) fun vl s2 ⟨l,H2,I2,pl,q2⟩=>Df (hu Ac s2 σ H2 _ I2 q2) fun vu s3 _z=>?_);obtain⟨u,H3,I3,pu,q3⟩:=_z;rw[evalPart_none];refine qb4 ?_;have I4:Bl X Ac σ H3 ?lQ:=I3.kept (t':=s3.toks) ?hC;obtain⟨T,id,hT,ht,hg⟩:=hr Ac ?lQ σ H3 x v vl vu l u ?kJ Q I4 r1 (Heap.IsSliceOf.new ..) pl pu q3;show ?C ?P X.A (?n9 e (.Slice lo hi ?Q p2) v (?g ?kJ)) ?eR ?b8 ?lQ;exact tail_any (ops:=[?g ?kJ,v]) ht hT hg (by with_unfolding_all rfl)
noncomputable def Ju[?a3][?f4]:?j:=?xE xs.drop
theorem Wd[?a3][?f4]:(?cH).length<=xs.length:=by
 unfold Ju;rw[qc9,qi6];omega
inductive VT[?d][?mB][?u]:Prop
 | mk:∀a xs,?eA->?h9->(¬(?b5=0/\?y8 ?dI))->(?wN (?q (?cH)))->?uF
noncomputable def Ay8[?d]:?eD:=?xY ?uF
theorem WO:ZW X (Ay8 X.K):=by
 ext m0;obtain⟨a,xs,rfl,hx,hw,q⟩:=h;cases rx;obtain⟨its,r,ht,hz⟩:=?aJ hx;have hlen:?y8 its.toArray.size:=by rw[qc1];exact r.length.symm
 refine⟨?b2,_,qv9.lookup,?gT,?_⟩;refine HT.getItem_tuple_cut ht hs pl pu (by rw[hlen];exact hw) ?_ (by rw[hlen];exact hz);rw[hlen];refine(?yJ ?q);exact⟨?u4,_,?xE r.drop,?iF⟩
inductive QJ[?d][?c7][?u]:Prop
 | mk:∀a b xs ys,?eA->(y=?g b)->?h9->(Dl K H b ys)->(xs≠[])->(?xK ys.length)->((ys=[]->Q ?bQ H))->((ys≠[]->?wN (?q (xs++ys))))->?t2
noncomputable def Af1[?d]:R2:=?x1 ?t2
theorem Vals.nil_iff[?c6][?c2](r:?dU):us=[]↔xs=[]:=by
 cases r with
 | nil=>simp
 | cons _ _=>simp
theorem sJ:?xQ Af1 X.K:=by
 ext eX;obtain⟨a,b,xs,ys,rfl,rfl,ha,hb,hx,hz,q1,q2⟩:=h;ext vF;refine HT.cat_tup p1 p2 (fun z=>hx (r1.nil_iff.mp z)) (fun z=>⟨?M,H,I,rfl,q1 (r2.nil_iff.mp z)⟩) (?tG) (by rw[←r1.length,←r2.length];exact hz);refine⟨?bP,_,?wW ?q (xs++ys),rfl,q2 (fun w=>z (r2.nil_iff.mpr w)) _ (?fJ)⟩;exact⟨?tB,_,r1.append r2,?iF⟩
universe e9
noncomputable def tL(n:Nat)(i:Int):?aW Nat:=if ?cZ then(if i<n then ?c ?jE else none) else if ?lR then ?c ?oQ else none
noncomputable def iK{α:Type}(xs:?e8)(i:Int):?aW α:=(tL ?a6 i).bind fun j=>xs[j]?
theorem JJ{n:Nat}{i:Int}{j:Nat}(h:tL n i=?aC):?oJ i n=?aC/\j<n/\?lR/\i<n:=by
 unfold tL at h;by_cases h0:?cZ
 . rw[?n h0]at h;by_cases h1:i<n
   . rw[?n h1]at h;have e:?tA:=qc6 h;exact⟨by rw[?jQ h0 h1,e],O9m,O9m,h1⟩
   . rw[?B h1]at h;cases h
 . rw[?B h0]at h;by_cases h1:?lR
   . rw[?n h1]at h;have e:?oQ=j:=qc6 h;exact⟨by rw[?i5 ?J h1,e],O9m,h1,O9m⟩
   . rw[?B h1]at h;cases h
theorem jV{α:Type}{xs:?e8}{i:Int}{v:α}(h:iK xs i=?z):∃j,?nF=?aC/\xs[j]?=?z/\?i6/\-?dW<=i/\?fD:=by
 unfold iK at h;cases e:tL xs.length i with
 | none=>rw[e]at h;cases h
 | some j =>
   rw[e]at h;obtain⟨h1,h2,h3,h4⟩:=JJ e;exact⟨j,h1,h,h2,h3,h4⟩
theorem Bp{α:Type}{xs:?e8}{j:Nat}{v:α}(h:xs[j]?=?z):iK xs (j:Int)=?z:=by
 have hj:?i6:=(?cE h).1
 have e:tL ?a6 (j:Int)=?aC:=by
  unfold tL;rw[?n ?J,?n ?J];simp
 unfold iK;rw[e];exact h
noncomputable def uI(b:Expr):Prop:=∀o i,?s1 b ?d0 o i=operate [o,i] (?gM o i)
noncomputable def IxR(X:Cx)(r:R2):Prop :=
 ∀(value slice:Expr) [?d8] (x y:V) (v u:Value) (Q:VK),?bW->?c9->RelV y u->r x y H Q →
   ?s1 slice ?d0 v u=operate [v,u] (?gM v u)->?xH (?n9 value slice v u) ?eR
noncomputable def MtR(X:Cx)(id:String)[?hQ]:Prop :=
 ∀[?d8] (x:V) [?a3] [?wI],?bW->?c9->?dU->?pY →
   ?sZ
section
variable{X:Cx}{a b:Expr}{ta tb:TE}{pos:Pos}
theorem Ba{r:R2}(hr:IxR X r)(ha:PE X a ta)(hb:PE X b tb)(hs:uI b):PE X (?rF a b pos) (tOp r ta tb):=by
 ext f1;exact ?q6 (YX ha hb I h fun v u s2 x y H2 I2 rx ry q=>hr a b Ac s2 σ H2 x y v u Q I2 rx ry q (hs _ _))
inductive VW[?d][?c7][?u]:Prop
 | mk:∀p xs i v,(x=?b6)->(y=?w)->(?tF)->(iK xs i=?z)->(Q v H)->?tM
noncomputable def Ae9[?d]:R2:=?x1 ?tM
inductive vW[?d][?c7][?u]:Prop
 | mk:∀p xs i v,(x=?b6)->(y=?w)->(Dl K H p xs)->(iK xs i=?z)->(Q v H)->?oS
noncomputable def Ae8[?d]:R2:=?x1 ?oS
theorem tK:IxR X (Ae9 X.K):=by
 ext v7;obtain⟨its,r,pl,hz⟩:=?aR;ext v5
 by_cases h0:?cZ
 . have hj:?tA:=by
    rw[?jQ h0 h5]at h1;exact ?fK
   exact item_listR ?cV h0 O9m (by rw[hj];simpa using ew) fin hs
 . have hj:(i+?oF).toNat=j:=by
    rw[?i5 ?J h4]at h1;ext c4;exact ?fK
   exact ?pR (x:=w) ?nS ?nY
    (wpAny_getItem_list_neg (Q:=?nX) ?cV O9m (by rw[qc1]<;>omega) O9m (by rw[hj];simpa using ew) ?s6) hs
theorem xV:IxR X (Ae8 X.K):=by
 ext v7;obtain⟨its,r,pl,hz⟩:=?fX;ext v5
 exact ?pR (x:=w) pl.typeIs slot_tuple_getitem.lookup
  (getItem_tuple (j:=j) (Q:=?nX) pl O9m O9m (by ext c4;exact h1) (by simpa using ew) ?s6) hs
theorem GX[?hZ](n j:Nat)(u:Value):?gB (·.setIfInBounds j u) ?fA={ cls:=?S,data:=?L (its.set j u).toArray n }:=by
 simp[Obj.mapSeq]
theorem Bl.lst[?Z]{p:Addr}[?c6][?s](h:?kN) :
 ∃(its:?x) (n:Nat),?pE/\?mS/\?oW:=by
 obtain⟨z,its,n,r,e⟩:=?g7 p _ h;exact⟨its,n,r,e,z⟩
theorem Bl.lstUpd[?Z]{p:Addr}{xs ys:?j}{its its':?x}{n n':Nat}{f:Obj->Obj}[?s](h:?kN)
 (ho:?mS) (hf:f ?fA=?rG) (r:?o8) [?mF] (t:Nat) :
 Bl X Ac σ (?x3 p ?b4) { s with heap:=?gL p f,toks:=t }:=by
 have e:(?gL p f).get? p=?c ?rG:=by
  rw[Heap.get?_update_self f ho (by rw[hf]<;>rfl),hf]
 refine I.write (x:=p) (e:=p) (by rw[h];trivial) ?dJ (fun b u hb q=>(?tQ _ _ (Ne.symm hb)).trans q) ⟨_,e⟩ ?_;exact⟨hz,its',n',r,e⟩
inductive qI(o:V)(i:V)(v:V)(H:Hp)(Q:(?aG)):Prop
 | mk:∀p xs k j,(o=?b6)->(i=?f k)->(?kN)->(tL ?a6 k=?aC)->(Q (?x3 p (?h (xs.set j v))))->?sF
noncomputable def Ae6:V->V->V->?x0 Hp (?aG):=fun o i v H Q=>?sF
theorem Fh:Ao5 X Ae6:=by
 intro Ac s σ H o i v ov iv u Q I ro ri rv h;obtain⟨p,xs,k,j,rfl,rfl,hp,hj,q⟩:=h;cases ro;obtain⟨t,rfl⟩:=ri;obtain⟨its,n,r,ho,hz⟩:=I.lst hp;obtain⟨h1,h2,h3,h4⟩:=JJ hj;have hl:=r.length;have hn:=BX
 have I':Bl X Ac σ (?x3 p (?h (xs.set j v))) { s with heap:=?gL p (?gB (·.setIfInBounds j u)) } :=
  I.lstUpd hp ho (GX its n j u) (r.set rv j) (by rw[qi3];exact hz) s.toks
 by_cases h0:0<=k
 . have hk:k.toNat=j:=by
    rw[?jQ h0 h4]at h1;exact ?fK
   exact PySem.W.ki_setAt ho h0 O9m (by ext c4;exact h4) (?yF q)
 . have hk:(k+?oF).toNat=j:=by
    rw[?i5 ?J h3]at h1;ext c4;exact ?fK
   exact PySem.W.ki_setBack ho O9m (by ext c4;exact h3) O9m (?yF q)
theorem BI[?f4](n:Nat):(?jW).1=((?d2 n 0 lo:Nat):Int)/\(?jW).2.1=((?d2 n n hi:Nat):Int)/\(?jW).2.2=1:=by
 refine⟨?_,?_,rfl⟩
 . cases lo with
   | none=>simp[sliceBounds,HT.sIx]
   | some i =>
     ext vD
     . simp only[h,if_true]<;>omega
     . simp only[h,if_false]<;>omega
 . cases hi with
   | none=>simp[sliceBounds,HT.sIx]
   | some i =>
     ext vD
     . simp only[h,if_true]<;>omega
     . simp only[h,if_false]<;>omega
theorem f8[?hZ][?f4]:slicePick ?A lo hi ?Q=((its.drop (?nN)).take (?d2 ?jJ ?jJ hi-?nN)).toArray:=by
 obtain⟨h1,h2,h3⟩:=BI lo hi ?i8;unfold slicePick;rw[h1,h2,h3];simp only[sliceRange_one,pick_run,qc1]<;>rfl
inductive vU[?d][?mB][?u]:Prop
 | mk:∀a xs,?eA->(?bU)->(?wN (?h (?cH)))->?qF
noncomputable def Ae5[?d]:?eD:=?xY ?qF
theorem rG:ZW X (Ae5 X.K):=by
 ext m0;obtain⟨a,xs,rfl,hx,q⟩:=h;cases rx;obtain⟨its,r,ht,hz⟩:=?aL hx;have hlen:=r.length;refine⟨?aH,_,?nY,ht.isList.typeIs,?_⟩;refine wpAny_getItem_list_slice ht.isList hs pl pu ?cF ?D ?_ (by rw[qc1]<;>omega);rw[f8,←hlen];refine(?yJ ?h);exact⟨?u4,_,0,?xE r.drop,?g1⟩
theorem cY:?yH "len" (fun xs H Q=>∃p ys,?dB/\(?lI\/?iJ)/\Q (?f ys.length) H):=by
 ext eZ;ext vO;have hn:=BX;rcases hq with hq | hq
 . ext lY;exact Calls.call_len_list ?cV ?eF ?rA
 . ext m7;have hlen:=r'.length;exact len_tuple pl ?eF ?rA
theorem cX:E6 X (?S) (fun xs H Q=>∃p ys,?dB/\(?lI\/?iJ)/\?sY):=by
 ext eZ;ext vO
 have fin:∀[?hZ],?s8->?sR->∀(h':Heap) (c':Nat),(∀b o',?cR b=?c o'->h'.get? b=?c o') →
  h'.get? ?G=?c { cls:=?S,dict:=none,data:=?L ?A c',slots:=#[] }->?y1 ?gW ?rR:=fun its r' hz h' c' kp e =>
  ⟨?bP,_,?dH (t':=s.toks) kp ?aD (show ObjOk ?cK X.w _ h' _ ?b4 from⟨hz,its,c',r',e⟩),rfl,?iQ⟩
 rcases hq with hq | hq
 . ext lY;obtain⟨o,ho,hc,n,hd⟩:=pl.isList;exact ?wX ?dJ
 . ext m7;have hlen:=r'.length;obtain⟨o,ho,hc,n,hd⟩:=pl;exact ?wX (?e rfl)
theorem w9:E6 X (?bY) (fun xs H Q=>∃p ys,?dB/\((?lI/\?pB)\/(?iJ/\Q ?a5 H))):=by
 ext eZ;obtain⟨p,ys,rfl,h⟩:=h;obtain⟨u,rfl,rx⟩:=Sk r;cases rx;rcases h with⟨hq,q⟩|⟨hq,q⟩
 . ext lY;refine call_tuple_list ?cV (fun h' kp=>?_) ?eF;have I1:Bl X Ac σ H ?rR:=I.kept (t':=s.toks) kp
   have I2:Bl X Ac σ (?x3 ?p9 (?q ys)) { s with heap:=h'.push { cls:=?bY,data:=?L ?A } } :=
    I1.laid (t':=s.toks) (fun b o e=>?g9) ?aD (show ObjOk ?cK X.w _ _ _ (?q ys) from⟨hz,its,r',?iF⟩)
   exact⟨?g ?p9,_,I2,rfl,q _ (?oP ?aD)⟩
 . ext m7;exact call_tuple_same pl ⟨?b6,H,I,rfl,q⟩
noncomputable def tyV[?d](T:String)(x:V)(H:Hp):Prop:=match x with
 | ?O _=>T=?eH
 | ?f _=>T=?aF
 | ?b6=>(T=?aH/\∃xs,?tF)\/(T=?b2/\∃o,?fH p=?a9/\o.cls=?bY/\o.dict=none) ∨
    (T=?h4/\((∃kvs,H p=?c (.dK kvs))\/∃kvs,H p=?c (.dT kvs)))\/(T="set"/\∃S n,H p=?c (.set S n))
 | _=>False
theorem wI[?Z]{T:String}{x:V}{v:Value}[?s](r:?c9)(ty:tyV X.K T x H) :
 ?jD v T/\∀a,?dN->∃ob,?cR a=?c ob/\ob.dict=none:=by
 cases x with
 | str z =>
   obtain⟨t,rfl⟩:=r;cases (show T=?eH from ty);exact⟨typeIs_str s z t,?oX⟩
 | int i =>
   obtain⟨t,rfl⟩:=r;cases (show T=?aF from ty);exact⟨?jK s i t,?oX⟩
 | ref p =>
   cases r;rcases ty with⟨rfl,xs,hq⟩|⟨rfl,o,hk,hc,hd⟩|⟨rfl,hk⟩|⟨rfl,S,n,hk⟩
   . obtain⟨its,_,pl,_⟩:=?aR;refine⟨?nS,?tK⟩;cases e;obtain⟨o,n,e,c,hd,_⟩:=pl;exact⟨o,e,hd⟩
   . refine⟨⟨o,?b0 p o hk,hc⟩,?tK⟩;cases e;exact⟨o,?b0 _ o hk,hd⟩
   . have z:∃o,?cR p=?a9/\o.ExactDict:=by
      rcases hk with⟨kvs,hk⟩|⟨kvs,hk⟩
      . ext vN
      . ext vN
     obtain⟨o,e,ex⟩:=z;ext vI
   . obtain⟨o,_,_,_,e,ex,_⟩:=?u8;ext vI
 | _=>exact ?fZ ty
structure Bf7[?d](T:String)[?hQ](t:TA)(σ:St)(Q:VK)(x:V)(H1:Hp):Prop where
 mk::(left:tyV K T x H1) (right:t σ H1 fun xs H2=>r x xs H2 Q)
noncomputable def tBM[?d](T:String)[?hQ](to:TE)(t:TA):TE:=fun σ H Q=>to σ H fun x H1=>Bf7 K T r t σ Q x H1
variable[?vG]
theorem Af6[?v8]
 [?vR]
 (hfew:(?qB
   && ?wP 1)=true:=by rfl)
 [?v9] (hplain:?lG (·.1)=false:=by rfl) :
 ?wV X.K:=by
 ext f1;refine wpAny_Call_method_late hbase hfew hline rfl (Df (ho Ac s σ H _ I h) ?qL);obtain⟨x,H1,I1,r1,ty,q1⟩:=_z;obtain⟨h1,h2⟩:=wI I1 r1 ty;refine⟨T,id,pa,slot,hty,h1,h2,?_⟩;have hA:=ha cpos Ac s1 σ H1 _ I1 q1;rw[hs]at hA ⊢;refine qp1 (by show(false || ?lG (·.1))=false;rw[hplain]<;>rfl) (qw2 ?_);exact Df hA fun us s2 ⟨vs,H2,I2,r2,q2⟩=>hm Ac s2 σ H2 x vs v us Q I2 r1 r2 q2
universe e9
noncomputable def MtM(X:Cx)(id:String)[?hQ]:Prop :=
 ∀[?d8] (x:V) [?a3] [?wI],?bW->?c9->?dU->?pY →
   ?sZ
theorem Vals.one:∀{x:V}[?c2],?a8 [x] us->∃u,us=[u]/\RelV x u
 | _,_,?V r ?R=>⟨_,rfl,r⟩
theorem Vals.eraseIdx:∀[?c6][?c2] (i:Nat),?dU->?a8 (?o5 i) (us.eraseIdx i)
 | _,_,_,?R=>?R
 | _,_,0,?V _ t=>t
 | _,_,i+1,?V r t=>?V r (Vals.eraseIdx i t)
theorem Vals.rep[?c6][?c2](h:?dU):∀k:Nat,?a8 (?pI).flatten (?aB k us).flatten
 | 0=>?R
 | k+1=>by
   rw[qi9,qi9,qk5,qk5];exact Vals.append h (Vals.rep h k)
theorem AK{α:Type}:∀(l:?e8) (i:Nat),(l.eraseIdx i).length<=l.length
 | [],_=>?bT
 | ?b3,0=>qm8 _
 | _::r,i+1=>qi4 (AK r i)
theorem aT[?hZ]:∀(k:Nat) (acc:?x),
 ?lD (fun x1 x2=>x1++x2) acc.toArray (?aB k ?A)=(acc++?qW).toArray
 | 0,acc=>?I
 | k+1,acc=>by
   have e:acc.toArray++its.toArray=(?iK).toArray:=?I
   have e2:(?iK)++?qW=acc++(?aB (k+1) its).flatten:=by
    rw[qi9,qk5,qw1]
   rw[←e2,←aT its k (?iK),←e,qi9,List.foldl_cons]
section
variable{X:Cx}[?Z]{l b:Addr}{xs ys zs:?j}
theorem Bl.lset{its its':?x}{n:Nat}{f:?iB->?iB}{t':Nat}[?s](hH:?cJ)
 (e:?p1) (hf:f ?A=its'.toArray) (hv:?o8) [?mF] :
 Bl X Ac σ (?x3 l ?b4) { s with heap:=?gL l (?gB f),toks:=t' }:=by
 have q:=PySem.IsL.update e f;rw[hf]at q;refine I.write (x:=l) (e:=l) (by rw[hH];exact trivial) ?dJ (fun b' u hb hu=>(?tQ ?gZ (?gB f) (Ne.symm hb)).trans hu) ⟨_,q⟩ ?_;exact⟨hz,its',_,hv,q⟩
theorem Bl.lnew{its:?x}{t':Nat}[?s](hv:?s8)[?mF] :
 Bl X Ac σ (?x3 ?G ?b4) { s with heap:=?jP { cls:=?S,data:=?L ?A },toks:=t' } :=
 ?dH (fun _ _ q=>qa5 _ q) ?aD ⟨hz,its,0,hv,?g1⟩
theorem Bl.fresh[?s]:?k2:=?fJ
theorem Bl.lstM[?s](hH:?cJ):?oW/\∃(its:?x) (n:Nat),?pE/\xs.length=its.length/\?p1:=by
 obtain⟨z,its,n,r,e⟩:=?g7 l _ hH;exact⟨z,its,n,r,r.length,e⟩
theorem OE{n:Nat}(h:?mM):?mV n=false:=by
 unfold Builtin.List.listTooLong;exact qj2 O9m
universe e9
section
variable{X:Cx}
inductive FU(x:V)(vs:?j)[?u]:Prop
 | mk:∀l xs y,?gG->?uN->(?cJ)->(xs.length<sizeLine)->(Q ?T (?x3 l (?h (xs++[y]))))->?nC
noncomputable def RO:?dP:=fun x vs H Q=>?nC
theorem E8:MtM X "list.append" RO:=by
 ext m5;obtain⟨l,xs,y,rfl,rfl,hH,hz,q⟩:=h;ext m4;ext m6;refine ?e2 F.slot_list_append ?e6 F.entry_list_append (F.args_list_append_2 _ _) (PySem.list_append l ?A n u (by rw[qc1];omega)) ?kF;refine⟨?T,_,I.lset (its':=its++[u]) hH e ?D (r.append (?V ru ?R)) ?_,rfl,q⟩;rw[qc3,qo4];omega
inductive jZ(x:V)(vs:?j)[?u]:Prop
 | mk:∀l xs i k y,?gG->(vs=[?w])->(?cJ)->(-(?e5)<=i)->(i<?e5)->(?nF=?c k)->(xs[k]?=?c y)->(Q y (?x3 l (?h (?o5 k))))->?qM
noncomputable def WT:?dP:=fun x vs H Q=>?qM
theorem EO:MtM X "list.pop" WT:=by
 ext m5;obtain⟨l,xs,i,k,y,rfl,rfl,hH,h1,h2,hk,hy,q⟩:=h;ext m4;obtain⟨t,rfl⟩:=ru;ext m6;obtain⟨w,hw,rw'⟩:=?eB hy
 refine ?e2 F.slot_list_pop ?e6 F.entry_list_pop (F.args_list_pop_2 _ _)
  (MeetsSeq.list_pop_at l ?A n i t k w (?s2) (by ext c4;exact hk) (by rw[←Array.getElem?_toList];exact hw) (by rw[qc1];omega)) ?kF
 refine⟨y,_,I.lset (its':=its.eraseIdx k) hH e ?_ (r.eraseIdx k) ?_,rw',q⟩
 . show its.toArray.eraseIdxIfInBounds k=(its.eraseIdx k).toArray;rw[List.eraseIdxIfInBounds_toArray]
 . have:=AK xs k;omega
inductive VU[?c7][?u]:Prop
 | mk:∀l k xs,?gG->(y=?f k)->(?cJ)->(-(?e5)<=k)->(k<?e5)->(xs.length*k.toNat<=sizeLine)->(?wN (?h (?aB ?gK xs).flatten))->?sT
noncomputable def Ay9:R2:=?x1 ?sT
theorem tE{α:Type}(xs:?e8)(k:Nat):(?pI).flatten.length=k*xs.length:=by
 induction k with
 | zero=>simp
 | succ k ih=>rw[qi9,qk5,qc3,ih,Nat.succ_mul,qw6]
theorem NZ:OpR X (?s4 .Mult) Ay9:=by
 ext eX;obtain⟨l,k,xs,rfl,rfl,hH,h1,h2,hz,q⟩:=h;cases rx;ext f2;ext m6;have hlen:?xG ?iC:=by ext c4;exact hz
 have hcap:¬?iC > ?uE:=by
  have:?tC<=?uE:=?p6
  omega
 have hfit:¬(!Builtin.List.listFitsIndex k)=true:=by
  rw[?s2];exact qd3
 have Ak6:¬?mV (?iC)=true:=by
  rw[OE hlen];exact qd3
 have hnew:?wY (if its.toArray.isEmpty=true then 0 else k.toNat) ?gK:=by
  have f0:∀m:Nat,?wY m m:=fun m=>by
   have:=aT its m [];rw[qn5]at this;exact this
  rw[f0];cases its with
  | nil=>simp
  | cons a r'=>rw[?eN]
 refine wpAny_binaryOp_repeat_ref (T:=?aH) (U:=?aF) ?cU ?e6 (fun s'=>?jK s' k t) noFill_list_mul F.fills_int_mul ?uL repeat_list F.slot_int_index.lookup
  (?e2 ?uL (?jK s k t) F.entry_int_rmul (F.args_int_rmul_2 _ _) (int___rmul___int_list k t l ?A n)
    ⟨e,rfl,?e6,?e2 F.slot_list_mul ?e6 F.entry_list_mul (F.args_list_mul_2 _ _) (AutoListH.list___mul___list_int_3 l ?A n k t hfit hcap Ak6) ?kF⟩)
 rw[hnew];exact⟨?g _,_,I.lnew (t':=s.toks) (r.rep ?gK) (by rw[tE,Nat.mul_comm];exact hz),rfl,?nA⟩
universe e9
section
variable[?m2]{s:Shared}
universe e9
section
variable{X:Cx}
universe e9
universe L2
namespace Att
open PySem PySem.W PySem.Calls PyProof.Rows
theorem Wv{P:Params}{h:Heap}:∀[?d9] (vs:?x),WellAll P h vs (?dX WData.int)->?fI:=by
 intro ns
 induction ns with
 | nil =>
   intro vs w;rw[qt6]at w;cases w;exact ?R
 | cons n ns ih =>
   intro vs w;rw[qe0]at w;cases w with
   | cons a b =>
     cases a;exact ?V _ _ (ih _ b)
theorem script_of{l:OpenLaw}{n:Nat}(hn:l.most=?c n){P:Params}{h:Heap}{args:?tO}{vals:?x}
 (hpre:l.row.toRowW.claim.pre args=true) (hwl:WellAll P h vals args) :
 ∃a vs ns,vals=[Value.ref a]/\args=[WData.list (?dX WData.int)]/\h.get? a=?c ?fO/\?fI/\?tZ:=by
 have hsh:WShape.hasAll [] args [.list ?f]=true:=(?uD).1;have hc:l.pre.holds [] { args:=args }=true:=(?uD).2;obtain⟨d,r,rfl,h1,h2⟩:=hasAllW_cons hsh;obtain rfl:=hasAllW_nil h2;obtain⟨xs,rfl,h3⟩:=hasW_list h1;obtain⟨ns,rfl⟩:=items_int h3
 have hlen:?tZ:=by
  unfold OpenLaw.pre at hc
  have h4:(WTm.not (.lt (.lit (?f ?e4)) (.len (.arg 0)))).holds [] { args:=[.list (?dX ?f)] }=true:=by
   have h4:=(holds_andW hc).1;rw[hn]at h4;exact h4
  have h5:=condW_of h4 (w_not (w_lt w_lit (w_len_list (w_arg rfl))));rw[qa4]at h5;refine qg2 fun q=>?_;have q':?e4<((ns.length:Nat):Int):=O9m
  first
   | (rw[qf8 q']at h5;exact ?H h5 ?cU)
   | (simp at h5;omega)
 cases hwl with
 | cons w1 w2 =>
   cases w2;cases w1 with
   | list ho hall=>exact⟨_,_,ns,rfl,rfl,ho,Wv ns _ hall,hlen⟩
theorem post_true(l:OpenLaw)(args:?tO):l.row.toRowW.claim.post args ?eK args=true :=
 postW_of (r:=l.row.toRowW) (X:=(true==true))
  (show WShape.has [] ?eK ?cT=true by first | rfl | decide | simp[WShape.has,WShape.arms,WShape.armsAll])
  (show(WTm.eq .res (.lit ?eK)).value [] { args:=args,res:=?c ?eK,after:=args }=?c (?cT (true==true)) from w_eq_bool (w_res rfl) w_lit) rfl
section
variable[?m2]{s:Shared}{K:Frag}
universe e9
universe Att
namespace L2
open PySem PySem.Spec PyProof.Rows
theorem z9:∀{vs:?x}[?c3],?fI->?a8 ?fW vs
 | _,_,?R=>?R
 | _,_,?V n t h=>?V ⟨t,rfl⟩ (z9 h)
noncomputable def ZA(H:Hp):Prop:=∀b,?i9\/∃o xs,H b=?c (.frz o (?h xs))
theorem oU[?hN]{mg mb:?g8}{CX:QO}{k:Nat}{fa a:Addr}{fd:FuncData}{x:Str}{sp:Sp}{s₁:Shared}{vs:?x}[?c3]
 (KX:K.In ?fG) (hns:?iO ?rS mg) (hb:?iO builtinsNs mb) (hbb:∀x:Str,x≠"__name__"->mb x=?W x) (hlim:s₁.heap.NoLimit) (hg:s₁.gens=#[])
 (ha:?pH a=?c ?fO) (hi:?fI) (hl:?xG ns.length) (hr:Gc k ?lE)
 (F:∀base:Heap,K.In base->base.Ns ?rS mg->By P w K mg base CX k fa fd [x] sp) (hbind:∀(s:Shared) (u:Value),BindsTo s fd ⟨[u],[]⟩ [(x,u)])
 (jM:∀H:Hp,ZA H->?g6->sp [?M] H (fun v _=>v=.bl ?aU) ?j2)
 (hCX:∀H e s',CX [] H s₁ (?j2) e s'->False) :
 ?rQ:=by
 have rv:=z9 hi;have A19:=hi.length
 have core:∀H:Hp,ZA H->?g6->Q7 P w H ?fG->(∀b,H b≠none->b=a)->(H a≠none->?fH a=none) →
  ?rQ:=by
  intro H hO hS hok hA hK;have JU:∀{b:Addr}{o:Obj},?nE->?i9->(?eJ).get? b=?a9:=fun e n=>pA e n
  have noA:∀{b:Addr}{o:Obj}{es:Array DictEntry}{ep:Nat},?nE->o.data=.dict es ep->?i9:=fun {b o es ep} e d=>by
   cases q:H b with
   | none=>rfl
   | some u =>
     have e':b=a:=?nB;subst e';rw[ha]at e;cases e;have d':Data.seq ?kZ _=Data.dict es ep:=d;cases d'
  have nsK:∀{b:Addr}{m:?g8},?iO b m->(?eJ).Ns b m:=fun {b m} ⟨o,es,ep,e,d,r⟩=>⟨o,es,ep,JU e (noA e d),d,r⟩
  have hKb:K.In (?eJ):=fun b o e=>JU (KX b o e) (by
   cases q:H b with
   | none=>rfl
   | some u =>
     have e':b=a:=?nB;subst e';rw[hK (by rw[q];simp)]at e;cases e)
  have hM:Mod K mg (?eJ):=⟨hKb,nsK hns,⟨mb,nsK hb,hbb⟩,let ⟨mc,h1,h2⟩:=hlim;⟨mc,nsK h1,h2⟩⟩
  have e0:IP P w K mg (?eJ) ?lE [] s₁ H:=⟨rfl,hM,fun b o e=>SO e,qk6 (LP _ _),trivial,fun b hb=>?H (show b∈([]:?eQ) from hb) ?D,hok,.of_eq hg⟩
  refine codeAny_mono ((F _ hKb (nsK hns)).run callerA [] s₁ H ⟨[.ref a],[]⟩ [.ref a] [.ref a] _ _ hr e0 (hbind s₁ (.ref a)) (.cons rfl .nil) (jM H hO hS)) fun r s' h=>?_;cases r with
  | error e=>exact(hCX H e s' h).elim
  | ok fl =>
    cases fl with
    | next=>exact ?fZ h
    | brk=>exact ?fZ h
    | cont=>exact ?fZ h
    | ret u =>
      obtain⟨v,H',os,bare,un,A51,r',q⟩:=h;have q':v=.bl true:=q;subst q';obtain rfl:u=Value.bool true:=r';refine⟨rfl,OldK.of_keep fun b o e=>?_,os,bare⟩;cases q:H b with
      | none=>exact un.keep b o e q (by intro z;exact ?H (show b∈([]:?eQ) from z) ?D) ?D
      | some u =>
        rcases hO b with z|⟨ob,xs,z⟩
        . rw[q]at z;cases z
        . have z2:=un.frzs b ob _ z;obtain⟨e1,_⟩:=hok b _ z;obtain⟨e2,_⟩:=A51 b _ z2;rw[e]at e1;cases e1;exact e2
 cases hk:K.lookup a with
 | some o =>
   have e:=KX a o hk;rw[ha]at e;cases e;refine core (?kS) (fun _=>?cI) (?e ⟨_,?kZ,_,hk,rfl,rfl,rfl,by rw[qc1,A19];exact hl,by simpa using rv⟩) (fun b u z=>by have z':(none:?aW HO)=?c u:=z;cases z') (fun b z=>?n4) fun z=>?n4
 | none =>
   refine core (fun b=>if b=a then ?c (.frz ?fO (?h ?fW)) else none) (fun b=>?_) (?i (?e ⟨?fO,?n rfl⟩)) (fun b u z=>?_) (fun b z=>?_) fun _=>hk
   . by_cases hb:b=a
     . exact ?e ⟨_,_,?n hb⟩
     . exact ?i (?B hb)
   . by_cases hb:b=a
     . have z':=(?n hb).symm.trans z;cases z';subst hb;exact⟨ha,by rw[qa4];exact hl,vs,_,rv,ha⟩
     . have z':=(?B hb).symm.trans z;cases z'
   . by_cases hb:b=a
     . exact hb
     . exact ?H (?B hb) z
noncomputable def Ex(s:Stmt)(j:Nat):Stmt:=match s with
 | .ClassDef _ _ _ body _ _ _ _ _ _ _=>body.getD j (?sA)
 | _=>?sA
noncomputable def Ip(s:Stmt):Arguments:=match s with
 | ?iU _ a _ _ _ _ _ _ _ _=>a
 | _=>{ posonlyargs:=[],args:=[],vararg:=none,kwonlyargs:=[],kw_defaults:=[],kwarg:=none,defaults:=[] }
noncomputable def Gj(s:Stmt):?m Stmt:=match s with
 | ?iU _ _ b _ _ _ _ _ _ _=>b
 | _=>[]
noncomputable def Au(s:Stmt):Scope:=match s with
 | ?iU _ _ _ _ _ _ sc _ _ _=>sc
 | _=>{ kind:=?dQ,names:=[],isGenerator:=false,isCoroutine:=false }
noncomputable abbrev Ej:QO:=fun _ _ _ _ _ _=>False
noncomputable abbrev E0:XK:=?j2
theorem EC{X:Cx}:Si Ej X E0:=fun _ _ _ _ _ _ _ h=>h.elim
structure Er[?d](x qual:Str)(st:Stmt)(f:Addr)(fd:FuncData):Prop where
 ex:∃(oc:Value) (od:OAddr) (kV doc pm:Value) (an:OAddr) (Dk ct:Value) (osl:Ra),
  fd=?h1/\?xX fd/\?sJ
 kp:?jA
section
variable[?hN][?wH]
theorem Er.ok[?vB](len:?rE)
 (hbody:∀[?vJ],?oN->?iS →
   ?nQ):?o6:=by
 ext vT;refine Am4 lk hcd S len fun A outer s H vs Q E hr jM=>?_;obtain⟨t,h,q⟩:=hbody Dk A outer s H vs Q E hr jM;exact⟨t,h.nox,q⟩
theorem Er.okZ[?vB]
 (hbody:∀[?vJ],?oN->?iS →
   ?nQ) (len:?rE:=by intro vs H Q E h;(repeat (cases h;rename_i h));all_goals (subst_vars;rfl)):?o6:=F.ok S len hbody
theorem Er.binds[?wK]{fd:FuncData}{ps:?b1}(F:?qC)
 (h:∀(kV doc pm:Value) (an:OAddr) (Dk ct:Value) (us:?x),us.length=ps.length->bindArgs (?h1) ⟨us,[]⟩=?E (ps.zip us)):?p0:=by
 ext vT;exact .all (h kV doc pm an Dk ct)
theorem cH[?wK]{oc:Value}{od an:OAddr}{osl:Ra}{kV doc pm Dk ct:Value}(l:?xX (?h1))
 (c:?sJ) (k:?jA):Er K x ?cX st f (?h1):=⟨⟨oc,od,kV,doc,pm,an,Dk,ct,osl,rfl,l,c⟩,k⟩
universe e9
section
variable{X:Cx}
theorem pv(i:Nat){x:Str}{pos:Pos}(hN:?rZ:=by rfl)(hv:?tN:=by first | exact ?p3 | exact ?kY (?p3) | exact ?kY (?kY rfl))(hd:?t1:=by decide)
 (hcd:(x==("__classdict__":Str))=false:=by decide):PE X (?h5 x pos) (Ac3 i):=wY hN hv hd hcd
universe e9
theorem ite2[?mE](h1:c->A)(h2:¬c->B):?iH:=by
 by_cases h:c
 . rw[?n h];exact h1 h
 . rw[?B h];exact h2 h
noncomputable def Same(H H':Hp):Prop:=∀b o,?q9
theorem Same.refl(H:Hp):?aM H H:=fun _ _ h=>h
theorem Same.trans{H H1 H2:Hp}(a:?jT)(b:?aM H1 H2):?aM H H2:=fun c o h=>b c o (a c o h)
theorem Same.free{H H':Hp}(e:?Y){l:Addr}(h:H' l=Option.none):H l=Option.none:=by
 cases q:H l with
 | none=>rfl
 | some o =>
   rw[e l o q]at h;cases h
theorem Same.seq[?bE]{H H':Hp}{a:Addr}[?c6](e:?Y)(h:?bU):SqL K H' a xs:=by
 rcases h with(h|⟨o,h⟩) | h
 . exact ?i (?i (e _ _ h))
 . exact ?i (?e ⟨o,e _ _ h⟩)
 . exact ?e h
noncomputable def v9(cells:?bF):?fL->?bF->?bF
 | [],acc=>acc
 | ?kG,acc=>v9 cells r (if ?k4 then(n,(?g4 n).getD 0)::acc else acc)
theorem Zw{sc:Scope}{env:Env}(h:∀n,?lN->?sI):closureFor sc env=?yN ?fN []:=by
 have all:∀(l:?fL) (acc:?bF),(∀n,?jR∈l->?sI) →
  (forIn l acc fun(x:?mK) (cs:?bF)=>match x with
    | (?bH,kind)=>if (?xJ kind)=true then(do let c ←cellOf env ?bH;?E (?gC ((?bH,c)::cs))) else ?E (?gC cs))=(?yN l acc:Sem _):=by
  intro l
  induction l with
  | nil=>intro acc _;rfl
  | cons x r ih =>
    intro acc hl;obtain⟨n,k⟩:=x;rw[List.forIn_cons];ext m9
    . ext wC
      subst hk';obtain⟨c,hc⟩:=hl n qe2;have e1:cellOf env n=?E c:=by unfold cellOf;rw[hc]
      simp only[beq_self_eq_true,if_true,e1,pure_bind];rw[?tV];show _=(?yN r (if (?xJ NameKind.free)=true then ?r1 else acc):Sem _)
      rw[?lB,hc];rfl
    . have hk2:(?kH)=false:=?k7
      simp only[hk2,qq5,if_false,pure_bind];rw[?tV];show _=(?yN r (if ?k4 then ?r1 else acc):Sem _)
      rw[?l3]
 have:=all ?fN [] h;unfold closureFor;dsimp only;rw[this,pure_bind]
theorem Gw[?wG]{c:Addr}:∀[?wA],(∀n,?jR∈l->∃c,?g4 n=?aP) →
 (acc.lookup x=?aP->?oD)->?y6 x->?oD
 | [],_,_,ha,h=>ha h
 | ?kG,acc,hl,ha,h=>by
   refine Gw (l:=r) (?tU) ?_ h;ext m9
   . rw[?n hk];ext wC
     subst hk';obtain⟨d,hd⟩:=hl n qe2;intro e;rw[qo8]at e;cases hx:x==n with
     | true =>
       rw[hx]at e;have hxn:x=n:=?gE
       subst hxn;rw[hd]at e ⊢;exact e
     | false=>rw[hx]at e;exact ha e
   . rw[?l3];exact ha
theorem Zx[?wG]:∀[?wA],(?iV∈l\/∃c,acc.lookup x=?aP)->∃c,?y6 x
 | [],_,h=>by
   rcases h with h | h
   . exact ?gR
   . exact h
 | ?kG,acc,h=>by
   refine Zx (l:=r) ?_;ext m9
   . rw[?n hk];by_cases hx:(x==n)=true
     . exact ?e ⟨(?g4 n).getD 0,by rw[qo8,hx]⟩
     . have hx2:(x==n)=false:=?gE
       rcases h with h|⟨c,h⟩
       . ext hO
         . have e1:x=n:=?pN Prod.fst e;exact ?H (by simp[e1]) hx
         . exact ?i e
       . exact ?e ⟨c,by rw[qo8,hx2];exact h⟩
   . rw[?l3];rcases h with h | h
     . ext hO
       . have e2:NameKind.free=k:=?pN Prod.snd e;exact ?H (by simp[←e2]) hk
       . exact ?i e
     . exact ?e h
noncomputable def Fl(X:Cx)[?mH](C:Addr)(s₀:Shared)(H₀:Hp)(fp:?eQ):Cx where
 prog:=X.prog
 w:=X.w
 K:=X.K
 mg:=X.mg
 base:=X.base
 A:=X.A
 N:=N'
 s₀:=s₀
 H₀:=H₀
 env:=compEnvC sc (?iG) C ?l
 outer:=X.stack
 stack:=X.stack
 ex:=fp
 fn:=fun _=>false
 calm:=X.calm
 pn:=[]
 xe:=?hD
noncomputable def IG[?hT](σ:St):St:=cap.map ?tT
structure Wl(X:Cx)[?mH][?hT]:Prop where
 kind:?sC
 len:?pU
 nocell:?tE
 locals:∀x∈sc.names,?pC
 free:∀n,?lN->?gO n=?aA\/?gO n=?bK
 slots:∀(i j:Nat) (x:Str),N'[i]?=?cS->cap[i]?=?c (?aC)->X.N[j]?=?cS/\(?mR)/\?tN
section
variable[?eU][?Z]{C:Addr}[?f5]
theorem Wl.cells[?hW](ok:X.Ok):∀n,?lN->∃c,?lO n=?aP:=fun n hn=>ok.has n (c.free n hn)
theorem Lb{env:Env}{x:Str}{k:NameKind}(hnc:?tE)(h:(relabel sc env).names.lookup x=?c k)(hk:k=.cell\/k=.free):?oO:=by
 have all:∀(l:?fL),(∀x∈l,?lK)->(l.map fun ?bX=>if (?kH&&?nV&&?qQ) then ?jN else ?bX).lookup x=?c k->?iV∈l:=by
  intro l
  induction l with
  | nil=>intro _ h;exact ?gR
  | cons p r ih =>
    intro hn h;obtain⟨n,q⟩:=p;rw[qe0,qo8]at h;by_cases hc:(?xJ q&&?nV&&?qQ)=true
    . have hq:q=NameKind.free:=by
       have:=hc;simp only[qc2]at this;simpa using this.1.1
      simp only[hc,if_true]at h;cases hx:x==n with
      | true =>
        have e:x=n:=?gE
        rw[e,hq];exact qe2
      | false =>
        rw[hx]at h;ext w7
    . simp only[hc]at h;cases hx:x==n with
      | true =>
        have e:x=n:=?gE
        simp only[qq5,if_false,hx]at h;have e2:q=k:=?oI
        rcases hk with z | z
        . exact ?H (e2.trans z) (hn (n,q) qe2)
        . rw[e,←z,←e2];exact qe2
      | false =>
        simp only[qq5,if_false,hx]at h;ext w7
 exact all ?fN hnc h
theorem TZ[?hW][?s](hC:?lL)[?hR][?wE]:(?pX).Ok where
 mod:=I.ok.mod
 kind:=c.kind
 glob:=I.ok.glob
 blt:=I.ok.blt
 above:=hC
 inj:=fun x y a hx hy=>I.ok.inj x y a (?x4 hx) (?x4 hy)
 has:=fun x hx=>by
  refine Zx (?i ?_);rcases hx with hx | hx
  . exact Lb ?dL hx ?dJ
  . exact Lb ?dL hx (?e rfl)
 cab:=fun _ _ h=>?gR
 hd:=I.ok.hd
 frames:=I.ok.frames
 stk:=?cI
 exf:=fun b hb'=>⟨qc7 (qb3 (?n8) hC),fun x a e=>(?gU).2.2.2.2.1 x a (?kI)⟩
 bs:=I.bs
 bsz:=qa6 ?n1 I.sz
 noex:=fun b o e hb'=>by
  rcases (?gU).2.2.2.1 with z | z
  . exact I.ok.noex b o e z
  . exact ?H (qb3 (?fM) (qa6 ?n1 z)) (qn4 _)
 exfs:=fun b hb' z=>by
  obtain⟨_,f1,f2,_⟩:=?gU;rcases ?bG (I.stkSub b z) with e | e
  . exact f1 e
  . exact f2 e
 funs:=I.stack
 frf:=I.stkFree
theorem PX[?hW][?s]{D:Addr}{h1:Heap}{t:Nat}(hC:C=?tI)(hD:D=s.heap.objs.size)[?hR][?wE]
 (hn:h1.Ns C ?kS) (hl:h1.get? D=?y4 0) (k:∀b o,?iX->h1.get? b=?a9) :
 Bl (?pX) [] ?gJ (?x3 D ?bI) { s with heap:=h1,toks:=t }:=by
 have hCs:?lL:=?qO
 have hCD:C≠D:=by rw[hC,hD];exact qs6 _
 have ok:=TZ (C:=C) (fp:=fp) c I hCs hf hb;have hDn:?jL:=by rw[hD];exact I.fresh
 have ltc:∀x a,(?iG).lookup x=?c a->?lO x=?c a:=fun x a e=>?kI;have cel:∀a v,s.heap.IsCell a v->h1.IsCell a v:=fun a v ?oC=>⟨o,k a o ho,hd⟩
 have ltD:∀a v,s.heap.IsCell a v->a≠D:=fun a v ?oC=>by rw[hD];exact qc7 (qb2 ho)
 refine⟨ok,rfl,I.bare,Un.laid k (by rw[hD];exact ?bT) hDn,⟨_,hn,fun i x v e1 e2 e3=>?_⟩,?uJ,?_,?uJ,?o7,?_,?_⟩
 . have e2':cap[i]?.map (?tT)=?rB:=by
    have:=e2;unfold IG at this;rw[qa9]at this;exact this
   cases hc:cap[i]? with
   | none=>rw[hc]at e2';cases e2'
   | some o =>
     rw[hc]at e2';cases o with
     | none=>cases e2'
     | some j =>
       have e4:?pJ=?z:=by simpa using e2'
       obtain⟨q1,q2',q3⟩:=c.slots i j x e1 hc;have q2:?oO:=q2'.elim (fun z=>Lb ?dL z ?dJ) fun z=>Lb ?dL z (?e rfl);obtain⟨m,hm,hl'⟩:=I.loc
       have e5:σ[j]?=?rB:=by
        cases z:σ[j]? with
        | none=>rw[z]at e4;cases e4
        | some y=>rw[z]at e4;cases y with
          | none=>cases e4
          | some y'=>cases e4;rfl
       obtain⟨u,r,l⟩:=hl' j x v q1 e5 q3;refine⟨u,r,?_⟩;obtain⟨a,ha⟩:=Zx (cells:=X.env.cells) (l:=sc.names) (acc:=[]) (x:=x) (?i q2);have kd:?gO x=?aA\/?gO x=?bK:=c.free x q2;rcases l with⟨hk,_⟩|⟨hk,a',ha',hcell⟩
       . rcases kd with z | z<;>rw[z]at hk<;>cases hk
       . have e6:a'=a:=by
          have:=ltc x a ha;rw[ha']at this;exact ?tL
         refine ?e ⟨q2',a,ha,?_⟩;rw[←e6];exact cel _ _ hcell
 . obtain⟨v,z⟩:=?mW;exact⟨v,cel a v z⟩
 . show upd H D ?bI C=none;rw[Aj hCD];exact ?tD hCs
 . show upd H D ?bI a=none;obtain⟨v,z⟩:=?mW;rw[Aj (ltD a v z)];exact I.freeC x a (ltc x a e)
 . exact I.hok.laid k (by rw[hD];exact ?bT) ⟨?gH,[],0,?R,hl⟩
 . show(?nL).length=N'.length;unfold IG;rw[qa4,c.len]
universe e9
noncomputable def UA(sI:Scope)(N:?b1)[?mH][?hT]:Bool :=
 ?p (?sC)&&?p (?pU)&&?y3 (?lK)&&?y3 (?pC) &&
 ?y3 (x.2=NameKind.free->(?eO x.1=?aA\/?eO x.1=?bK)) &&
 (?l9).all (fun p=>match p.2 with
   | none=>true
   | ?aC=>?p (N[j]?=?c p.1)&&?p ((?wM ?aA) ∨
      (?wM ?bK)) &&
     ?p (?iM=?c .local\/?iM=?aA\/?iM=?bK))
theorem jT[?eU](h:?nD):?fF:=by
 unfold UA at h;rw[qc2,qc2,qc2,qc2,qc2,qe1,qe1,qe1,qe1]at h;obtain⟨⟨⟨⟨⟨h1,h2⟩,h3⟩,h4⟩,h5⟩,h6⟩:=h;refine⟨qc8 h1,qc8 h2,fun x hx=>qc8 (h3 x hx),fun x hx=>qc8 (h4 x hx),fun n hn=>qc8 (h5 _ hn) rfl,fun i j x e1 e2=>?_⟩
 have hm:(x,?aC)∈?l9:=by
  have e:(?l9)[i]?=?c (x,?aC):=by
   rw[List.getElem?_zip_eq_some];exact⟨e1,e2⟩
  exact qb0 e
 have h7:=h6 _ hm;dsimp only at h7;rw[qc2,qc2]at h7;obtain⟨⟨h8,h9⟩,h10⟩:=h7;exact⟨qc8 h8,qc8 (p:=?mR) h9,qc8 (p:=?wU x=?c .local\/?wU x=?aA\/?wU x=?bK) h10⟩
noncomputable def zX(X:Cx)(ifs:?cL)(t:TT):Prop :=
 ∀[?d8] (Q:Bool->?aG),?bW->?nH →
   ?C ?P X.A (forIn ifs ?aU fun c r=>if r=true then do let ok ←isTrue c ?l (eval c ?l);?E (?gC ok) else ?E (?gC r)) (TP X Ac σ Q) ?b8 s
noncomputable def kQ:TT:=fun _ H Q=>Q ?aU H
theorem Ce{X:Cx}:zX X [] kQ:=fun _ _ _ H _ I h=>wpAny_tests_nil ⟨H,I,h⟩
theorem W9{X:Cx}{c:Expr}{t:TT}(h:PT X c t):zX X [c] t:=fun Ac s σ H Q I hw=>wpAny_tests_one (h Ac s σ H Q I hw)
noncomputable def Sh(J:It)(g:TG)(tc:TT)(te:TE)(D:Addr)(Q:?aG)(τ:St)(H:Hp):Prop :=
 ∃W:Nat->?j0,(∃m,W 0 m [] τ H)/\∀i m ys τ H,W i m ys τ H →
   (J.stop i H/\Q H) ∨
   (J.go i H/\∃N:?q0,(∀ys' τ' H',N ys' τ' H'->∃m',m'<m/\W ?aE m' ys' τ' H') ∧
     ∀x H',J.yld i H x H'->g x τ H' fun τ2 H2=>tc τ2 H2 fun b H3=>if b=true then te τ2 H3 (?xD τ2) else N ys τ2 H3)
section
variable[?eU][?vZ]
theorem ME{Y:Cx}{J:It}[?f5]{it D:Addr}{tn:?pO}{R:?sS}{Q:?aG}{τ:St}{H:Hp}{s:Shared}
 (hx:Y.xe=?hD) (hc:Y.calm=true) (hg:PG Y tg g) (ht:zX Y ifs tc) (he:PE Y elt te) (T:Vo Y.prog Y.w Y.K tg J fp it tn) (st:?qN) (hf:∀b∈fp,Qs Y [] H b) (I:Bl Y [] τ H s)
 (h:?wL J tc) (hR:∀τ' H' s',?rV->Q H'->R (.ok .next) s') :
 ?hB (?fQ Y.prog Y.w) Y.A (?oT ?aV 0 ?gD ?cP Y.env) R s:=by
 obtain⟨W,⟨m0,w0⟩,turn⟩:=h;have gD:∀{H':Hp},(∀b∈fp,H' b=none)->∀b∈fp,Qs Y [] H' b:=fun hn b hb=>⟨hn b hb,(?fS).2⟩
 have no:∀{P:Prop}{e:Value}{s':Shared},Y.xe e s'->P:=fun z=>by rw[hx]at z;exact z.elim
 refine codeAny_loop rfl (fun n s'=>∃i ys τ' H',?rV/\?xF ?h8 n) ?_ m0 ⟨0,[],τ,H,I,st,fun b hb=>(?fS).1,w0⟩;rintro n s3 ⟨i,ys,τ3,H3,I3,st3,qS,w3⟩;show ?C _ Y.A ((compTurn ?aV 0 ?gD ?cP Y.env).onRaise (fun x=>do noteFrame x Y.env;theTreesLotGoes x)) _ _ s3;refine wpAny_noted ?_;rw[compTurn_list];refine ?yE ?_;rcases turn i n ys τ3 H3 w3 with⟨stop,qn⟩|⟨go,N,hN,step⟩
 . refine ?yD (T.done Y rfl rfl rfl hc i [] s3 τ3 H3 (?hD) I3 (gD qS) st3 stop);obtain⟨hr,I4⟩:=_z;subst hr;exact qb4 (hR _ _ _ I4 qn)
 . refine ?yD (T.item Y rfl rfl rfl hc i [] s3 τ3 H3 (?hD) I3 (gD qS) st3 go);obtain⟨u,hr,h4⟩:=_z;subst hr;refine qa3 (qj8 h4 (fun _ s5 _z=>?_) ?jX);obtain⟨x,H5,I5,r5,y5,WN,YN⟩:=_z;have I5':=I5.pinned (gD YN) (T.obj _ _ WN)
   have again:∀{τ7:St}{H7:Hp}{ys7:?j}{s7:Shared},Bl Y ([]++Yh fp s5.heap) τ7 H7 s7->N ys7 τ7 H7->∃m,m<n/\∃i ys τ' H',Bl Y [] τ' H' s7/\?xF s7.heap m:=fun {τ7 H7 ys7 s7} I7 n7=>by
    obtain⟨m',hm,w7⟩:=hN ys7 τ7 H7 n7;refine⟨m',hm,i+1,ys7,τ7,H7,I7.unpinned,T.keep _ _ _ WN fun b hb o e=>(?pZ).1,?h2,w7⟩;obtain⟨o,e,d⟩:=T.obj _ _ WN b hb;exact(?pZ).2.1
   refine qa3 (qj8 (hg _ s5 τ3 H5 x u _ I5' r5 (step x H5 y5)) (fun _ s6 _z=>?_) fun _ _ z=>no z);obtain⟨τ6,H6,I6,q6⟩:=_z;refine qa3 (qj8 (ht _ s6 τ6 H6 _ I6 q6) (fun ok s7 _z=>?_) fun _ _ z=>no z);obtain⟨H7,I7,q7⟩:=_z;cases ok with
   | false =>
     have q8:N ys τ6 H7:=?nI
     exact qb4 ⟨rfl,again I7 q8⟩
   | true =>
     have q8:te τ6 H7 (?xD τ6):=?nI
     refine qa3 (qa3 (qj8 (he _ s7 τ6 H7 _ I7 q8) (fun y s8 _z=>?_) ?p7));obtain⟨v8,H8,I8,r8,hD,hl,n8⟩:=_z;refine qa3 (qj8 (E8 _ s8 τ6 H8 ?cP [v8] ?cP [y] (fun _ H9=>N (ys++[v8]) τ6 H9) I8 rfl (?V r8 ?R) ⟨D,ys,v8,rfl,rfl,hD,hl,n8⟩) (fun _ s9 _z=>?_) ?p7);obtain⟨_,H9,I9,_,n9⟩:=_z;exact qb4 (qb4 ⟨rfl,again I9 n9⟩)
theorem Zv[?Z]{J:It}[?f5]{it:Addr}{tn:?pO}{RR:?d3->Addr->?sS}{Q:Addr->?aG}{E:?kD}
 [?hW] [?hY] [?v4]
 [?s] (T:Vo ?cK X.w X.K tg J fp it tn) (st:?qN) [?hR]
 (h:∀D,?jL->Sh J g tc te D (Q D) ?gJ (?x3 D ?bI))
 (hR:∀D C s' H' m',?jL->?lL->s'.os=s.os->?uM->Un (MR X.stack) fp H H' ?gZ ?h8->Q7 ?cK X.w H' ?h8->s'.heap.Ns C m'->H' C=none->C ∉ fp->Q D H'->RR ?cP C (.ok .next) s') :
 ?C ?P X.A (newList []) (fun acc s₃=>?C ?P X.A (newFunctionEnv sc X.env.globals (?iG) [] X.env.qual ?Q ?cF (?c ?l)) (fun cenv s₄ =>
  ?hB ?P X.A (.compStart ?aV 0 ?gD acc { cenv with scope:=?l6 }) (RR acc cenv.locals) s₄) E s₃) E s:=by
 have hb:?n2:=fun b hb=>by
  obtain⟨o,e,_⟩:=T.obj _ _ st b hb;exact ?fM
 refine qk9 (wpAny_newFunctionEnv ?dL (by intro y hy;simp at hy) (fun h₁ YC tN=>?_) ?kL);dsimp only at YC tN ⊢;generalize zT:?jP { cls:=?S,dict:=none,data:=?L ([]:?x).toArray }=H2 at YC tN ⊢;have hC:H2.objs.size=?tI:=by rw[←zT,qi0]
 have hCl:s.heap.objs.size<=H2.objs.size:=?qO
 have hCn:s.heap.objs.size≠H2.objs.size:=by rw[hC];exact(qs6 _).symm
 have old:∀b o,?iX->?nZ b=?a9:=fun b o e=>by
  have l1:=?fM;exact ?oY b o (qc7 (qb3 l1 hCl)) (qa5 _ (zT▸ ?g9))
 have hl:?nZ ?G=?y4 0:=?oY _ _ hCn (qa5 _ (zT▸ ?g1));have A53:h₁.Ns ?iR ?kS:=by simpa using YC
 have I4:Bl (?gA) [] ?gJ (?x3 ?G ?bI) ?oZ:=PX c I hC rfl hf hb A53 hl old;have hfr:?k2:=I.fresh
 have f4:∀b∈fp,Qs (?gA) [] (?x3 ?G ?bI) b:=fun b hb'=>by
  obtain⟨f0,f1,f2,f3,f4,f5⟩:=?gU;have lb:=?n8;refine⟨by rw[Aj (qc7 lb)];exact f0,(qc7 (qb3 lb hCl):b≠H2.objs.size),?tG,?i hb',fun x a e=>f4 x a (?kI),?o7⟩;rcases ?bG (I.stkSub b z) with e | e
  . exact f1 e
  . exact f2 e
 have st4:tn 0 h₁:=T.keep _ _ _ st fun b _ o e=>old b o e
 have loop:∀s₅:Shared,s₅=?oZ →
  ?hB ?P X.A (?oT ?aV 0 ?gD ?gW (?gA).env) (RR ?gW ?iR) s₅:=by
  rintro s₅ rfl;refine ME (Y:=?gA) (J:=J) (fp:=fp) (tn:=tn) (Q:=Q ?G) rfl hc (hg _ _ _ _) (ht _ _ _ _) (he _ _ _ _) T st4 f4 I4 (h _ hfr) fun τ' H' s' I' q'=>?_;obtain⟨m',hn',_⟩:=I'.loc;exact hR _ _ s' H' m' hfr hCl I'.os I'.bare I'.base I'.hok hn' I'.free (fun z=>?H (qb3 (hb _ z) hCl) (qn4 _)) q'
 exact codeAny_compStart_list (loop _ rfl) (T.self _ 0 _ _ _ st4 (loop _ rfl))
noncomputable def UP(wi:TI)[?hT](g:TG)(tc:TT)(te:TE):TE:=fun σ H Q=>wi σ H fun J H1=>∀D,H1 D=none->Sh J g tc te D (fun H'=>?tP) ?gJ (upd H1 D ?bI)
theorem Bl.fpCh{Ac:Bj}{H:Hp}[?f5][?hR]:∀b∈fp,(b∈X.ex\/X.s₀.heap.objs.size<=b)/\b≠X.env.locals/\(∀x c,?lO x=?aP->c≠b)/\∀p∈X.pn++Ac,p.1≠b :=
 fun b hb=>let ⟨_,f1,_,f3,f4,f5⟩:=?fS;⟨f3,f1,f4,f5⟩
theorem Cc{wi:TI}[?vL](hg:?uQ)(ht:?qA)
 (he:?t4) [?vV]:PE X ?aV (UP wi cap g tc te):=by
 ext f1;have c:?fF:=jT hcap;rw[eval_ListComp];refine ?qU (use:=none) rfl hs ?q8 ?kL ?uU (?wZ h);ext vW;refine Zv (RR:=?yI ?Q ?eR) (Q:=fun D H'=>?tP) c hc hg ht he I2 T st2 f2 hW ?_;intro D C s' H' m' hD hC hos hbare hun hok hn hHC hCf q;refine⟨m',hn,fun h' Oh=>?_⟩;ext v6;have I4:Bl X Ac σ H' { s' with heap:=h' }:=I3.turned (t':=s'.toks) (fun b o hb e=>(Oh.2 b hb).trans e) hHC k1 k3 k4 k5;exact⟨?g D,H',I4,rfl,q⟩
theorem bN{wi:TI}{i:Nat}{x:Str}{px spos:Pos}(hN:X.N.Nodup)(hi':?rZ)(hx:zB ?j9 x)[?vL]
 [?v4]
 (hsw:swapsWith ?aV (?c (?cB)) spos.line ?l=?E ?aU:=by rfl)
 [?vV] (hf:X.fn x=true\/?wU x=?c .local:=by first | exact ?cI | exact ?e rfl | assumption) :
 PS X (.Assign [?cB] ?aV spos) (rC (UP wi cap g tc te) (AS i)):=by
 intro Ac s σ H D I h;have c:?fF:=jT hcap;rw[exec_Assign_Name_used _ _ _ _ hsw];refine ?yE ?_;show ?C _ X.A (do let _ ←comprehension ?aV sc ?l _ (newList []) ?d0 (eval iter ?l) (?xU ?l)) _ _ s
 refine qa3 (Df (?qU (use:=?xU ?l) (Q:=?uC) rfl hs ?q8 ?kL ?uU
  (?wZ h)) fun _ s' hq=>qb4 (qb4 hq))
 ext vW;refine Zv (RR:=?yI (?xU ?l) (?uC)) (Q:=fun A H'=>AS i (?g A) σ H' D.nx) c hc hg ht he I2 T st2 f2 hW ?_;intro A C s' H' m' hD hC hos hbare hun hok hn hHC hCf q;ext v6;show ?C _ X.A (assign (?cB) ?l (?g A)) _ _ s';refine wpAny_assign_Name (aB I3 hN hi' hx (v:=?g A) rfl (fun s'' I'' _z=>?_) hf);obtain⟨a,Oh,ha⟩:=_z
 have hCa:C≠a:=by
  rcases ha with z | z
  . rw[z];exact k1
  . exact fun z'=>k4 x a z z'.symm
 refine⟨m',hn.sameBut Oh hCa,fun h' A43=>?_⟩;have I4:Bl X Ac (σ.set i (?c (?g A))) H' { s'' with heap:=h' }:=I''.turned (t':=s''.toks) (fun b o hb e=>(A43.2 b hb).trans e) hHC k1 k3 k4 k5;exact⟨_,H',I4,q⟩
universe e9
section
variable{g:TG}{tc:TT}[?eW]
theorem aX[?eT][?m1]
 [?v2]
 [?eV]:?wL ?t0 tc:=by
 ext lU;ext vH
 . ext lT;ext vS
 . ext hS
   ext vX
theorem pX[?eT][?w3]
 [?v2]
 [?eV]:?wL ?qS tc:=by
 ext lU;ext vH
 . ext lT;ext vS
 . ext hS
   ext vX
theorem IF[?vY]
 (hs:?xC ?lA)
 [?wF]:?wL ?q5 tc:=by
 refine⟨fun i m ys τ H=>m=n-i/\i<=n/\?aQ,⟨n,?I,?gH,h0⟩,?_⟩;rintro i m ys τ H ⟨rfl,hi,p⟩;by_cases hlt:i<n
 . refine ?xR hlt ⟨n-?aE,O9m,rfl,hlt,p'⟩;obtain⟨e,y⟩:=y;subst e y;exact hs i ys τ _ hlt p
 . have e:i=n:=O9m
   subst e;exact ?i ⟨?bT,?t6⟩
universe e9
universe L2
namespace L2
open PySem PySem.Spec PyProof.Rows PySem.SeqAt
inductive D where
 | non | bl (b:Bool) | int (i:Int) | str (x:Str) | tup [?f7] | lst [?f7]
mutual
def Rep[?d](H:Hp):?x0 V D
 | v,?T=>v=?T
 | v,?bV=>v=?bV
 | v,?w=>v=?w
 | v,?O x=>v=?O x
 | v,?bL=>∃a vs,?dN/\Dl K H a vs/\?b7
 | v,?eG=>∃a vs,?dN/\?xO a vs/\?b7
 def Reps[?d](H:Hp):?x0 ?j ?y
 | vs,[]=>vs=[]
 | vs,?bO=>∃v r,vs=v::r/\?aZ/\?xT r ds
end
mutual
def xY:?k1
 | ?h _=>false
 | ?bL=>?jH
 | _=>true
def imms:?o0
 | []=>true
 | ?bO=>xY d&&?jH
 end
mutual
def dep:D->Nat
 | ?eG=>?aN+1
 | ?bL=>?aN+1
 | _=>0
def deps:?y->Nat
 | []=>0
 | ?bO=>max (dep d) (?aN)
end
mutual
def eqD:D->?k1
 | ?T,?T=>true
 | .bl a,?bV=>a==b
 | .bl a,?e9=>(if a then 1 else 0)==b
 | ?f a,?bV=>a==(if b then 1 else 0)
 | ?f a,?e9=>a==b
 | ?O a,?O b=>a==b
 | ?q a,?q b=>?eE
 | ?h a,?h b=>?eE
 | _,_=>false
def eqDs:?y->?o0
 | [],[]=>true
 | a::r,b::q=>eqD a b&&eqDs r q
 | _,_=>false
end
mutual
theorem Zn(d:D):eqD d d=true:=by
 cases d with
 | non=>rfl
 | bl b=>simp[eqD]
 | int b=>simp[eqD]
 | str b=>simp[eqD]
 | tup ds=>simp only[eqD];exact ?jF ds
 | lst ds=>simp only[eqD];exact ?jF ds
theorem eqDs_refl[?f7]:eqDs ds ds=true:=by
 cases ds with
 | nil=>rfl
 | cons d r=>simp only[eqDs,qc2];exact⟨Zn d,?jF r⟩
end
theorem eqDs_len:∀{a b:?y},?eE=true->?fB
 | [],[],_=>rfl
 | [],?b3,h=>?rW
 | ?b3,[],h=>?rW
 | x::a,y::b,h=>by
   simp only[eqDs,qc2]at h;rw[qd0,qd0,?qX h.2]
theorem Zm:∀(a b:?y),?fB->?eE=(?cD a.length).all fun j=>match a[j]?,b[j]? with | ?cS,?c y=>eqD x y | _,_=>true
 | [],[],_=>by simp[eqDs]
 | [],?b3,h=>?kX
 | ?b3,[],h=>?kX
 | x::a,y::b,h=>by
   have h':?fB:=?oI
   rw[qd0,List.range_succ_eq_map,List.all_cons,List.all_map];simp only[eqDs,Zm a b h']
   congr 1
structure T4(H H':Hp):Prop where
 tup:∀b xs,H b=?c (?q xs)->H' b=?c (?q xs)
 frz:∀b o u,H b=?c (.frz o u)->H' b=?c (.frz o u)
section
variable[?bE]{H H' H1 H2:Hp}{a l p:Addr}[?c6]{o:HO}
theorem Same.t[?i2]:?dZ:=⟨fun b xs h=>x b _ h,fun b o u h=>x b _ h⟩
theorem T4.lst(h:?cJ):T4 H (?x3 l o):=⟨fun b ys e=>?sH,fun b ob u e=>?sH⟩
theorem Same.new(h:?fU):?aM H (?x3 l o):=fun b u e=>by rw[Aj (Ao e h)];exact e
theorem Same.turn(x:?jT)(h:?fU):?aM H (upd H1 l o):=fun b u e=>by rw[Aj (Ao e h)];exact x b u e
theorem Dl.t(x:?dZ)(h:?fE):?t5:=by
 rcases h with(h|⟨o,h⟩) | h
 . exact ?i (?i (x.tup _ _ h))
 . exact ?i (?e ⟨o,x.frz _ _ _ h⟩)
 . exact ?e h
theorem Same.seqT[?i2](h:?fE):?t5:=h.t x.t
mutual
theorem Rep.t(x:?dZ){v:V}{d:D}(hi:xY d=true)(h:?aZ):?nT:=by
 cases d with
 | non=>exact h
 | bl b=>exact h
 | int i=>exact h
 | str x=>exact h
 | tup ds =>
   ext hP;exact⟨a,vs,e,q.t x,Reps.t x (by simpa[xY]using hi) r⟩
 | lst ds=>simp[xY]at hi
theorem Reps.t(x:?dZ)[?c0](hi:?jH=true)[?mI]:?uW:=by
 cases ds with
 | nil=>exact h
 | cons d r =>
   obtain⟨v,q,e,h1,h2⟩:=h;simp only[imms,qc2]at hi;exact⟨v,q,e,Rep.t x hi.1 h1,Reps.t x hi.2 h2⟩
end
mutual
theorem Rep.same[?i2]{v:V}{d:D}(h:?aZ):?nT:=by
 cases d with
 | non=>exact h
 | bl b=>exact h
 | int i=>exact h
 | str x=>exact h
 | tup ds =>
   ext hP;exact⟨a,vs,e,x.seqT q,?kT x r⟩
 | lst ds =>
   ext hP;exact⟨a,vs,e,x.seq q,?kT x r⟩
theorem Reps.same[?i2][?c0][?mI]:?uW:=by
 cases ds with
 | nil=>exact h
 | cons d r =>
   obtain⟨v,q,e,h1,h2⟩:=h;exact⟨v,q,e,?pW x h1,?kT x h2⟩
end
theorem Reps.length:∀[?c0],?b7->vs.length=ds.length
 | vs,[],h=>by ext mD;rfl
 | vs,?bO,h=>by
   obtain⟨v,r,rfl,_,h2⟩:=h;rw[qd0,qd0,Reps.length h2]
theorem Reps.get:∀[?c0]{i:Nat}{d:D},?b7->?k8->∃v,vs[i]?=?z/\?aZ
 | vs,[],i,d,h,e=>by simp at e
 | vs,?jO,0,d,h,e=>by
   obtain⟨v,r,rfl,h1,_⟩:=h;simp only[qs0,Option.some.injEq]at e;subst e;exact⟨v,?I,h1⟩
 | vs,?jO,i+1,d,h,e=>by
   obtain⟨v,r,rfl,_,h2⟩:=h;obtain⟨u,e1,e2⟩:=Reps.get (i:=i) h2 (?nU);exact⟨u,by simpa using e1,e2⟩
theorem Reps.getV:∀[?c0]{i:Nat}{v:V},?b7->vs[i]?=?z->∃d,?k8/\?aZ:=fun {vs ds i v} h e=>by
 have hl:=h.length;have hi:i<vs.length:=(?cE e).1;obtain⟨d,hd⟩:∃d,?k8:=⟨ds[i]' ?cM,?aS⟩
 obtain⟨u,e1,e2⟩:=h.get hd;rw[e]at e1;cases e1;exact⟨d,hd,e2⟩
theorem Reps.append:∀{vs ws:?j}{ds es:?y},?b7->?xT ws es->?xT (vs++ws) (ds++es)
 | vs,ws,[],es,h,h'=>by ext mD;exact h'
 | vs,ws,?bO,es,h,h'=>by
   obtain⟨v,r,rfl,h1,h2⟩:=h;exact⟨v,r++ws,rfl,h1,Reps.append h2 h'⟩
theorem Reps.one{v:V}{d:D}(h:?aZ):?xT [v] [d]:=⟨v,[],rfl,h,rfl⟩
theorem Reps.snoc[?c0]{v:V}{d:D}[?mI](h':?aZ):?xT (vs++[v]) (ds++[d]):=h.append (.one h')
theorem Reps.take:∀[?c0] (n:Nat),?b7->?xT (vs.take n) (ds.take n)
 | vs,ds,0,h=>by simp[Reps]
 | vs,[],n+1,h=>by ext mD;simp[Reps]
 | vs,?bO,n+1,h=>by
   obtain⟨v,r,rfl,h1,h2⟩:=h;exact⟨v,r.take n,rfl,h1,Reps.take n h2⟩
noncomputable def Fj[?d9]:?y:=?dX D.int
noncomputable abbrev tI[?d9]:D:=?q ?cC
theorem aP:∀ns:?k,imms ?cC=true
 | []=>rfl
 | n::ns=>by show(xY (?h3)&&imms ?cC)=true;rw[aP ns];rfl
theorem OX[?d9]:xY (tI ns)=true:=aP ns
theorem Za:∀xs:At,imms ?aY=true
 | []=>rfl
 | x::xs=>by show(xY (tI x)&&imms ?aY)=true;rw[Za xs,OX];rfl
theorem AU:∀a b:?k,?pM=?tY
 | [],[]=>?iP
 | [],?b3=>?iP
 | ?b3,[]=>?iP
 | x::a,y::b=>by
   show(eqD (?f x) (?f y)&&?pM)=_;rw[AU a b];simp only[eqD];by_cases e:x=y
   . subst e;by_cases e2:a=b<;>simp[e2]
   . simp[e]
theorem pL(a b:?k):eqD (tI a) (tI b)=?tY:=by simp only[eqD];exact AU a b
theorem Ib:∀[?f9][?c3],?xT vs ?cC↔vs=?kM
 | vs,[]=>Iff.rfl
 | vs,n::ns=>by
   constructor
   . rintro ⟨v,r,rfl,h1,h2⟩;have dJ:v=?h3:=h1;rw[dJ,Ib.mp h2];rfl
   . rintro rfl;exact⟨?h3,?kM,rfl,rfl,?mL⟩
universe e9
section
variable{X:Cx}[?Z]
theorem jE[?s]{a:Addr}{xs ys:?j}(h:Dl X.K H a xs)(h':SqL X.K H a ys):False:=by
 obtain⟨its,r,⟨o,e,c,n,d⟩,_⟩:=?aJ h;obtain⟨its',r',⟨o',n',e',c',_,d'⟩,_⟩:=?aL h';rw[e]at e';cases e';rw[c]at c';have z:(?b2:String)=?aH:=by injection c'
 exact ?H z ?cU
mutual
theorem Rep.inj[?s]{v:V}{d e:D}(h:Rep X.K H v d)(h':?l1):d=e:=by
 cases d with
 | non=>cases (?yC v ?T);cases e<;>first | rfl | (exfalso;first | (cases (show V.non=_ from h')) | ext hI)
 | bl b=>cases (?yC v ?bV);cases e<;>first | (cases (?wT V.bl);rfl) | (exfalso;first | (cases (?wT V.bl)) | ext hI)
 | int b=>cases (?yC v ?e9);cases e<;>first | (cases (?wT ?aK);rfl) | (exfalso;first | (cases (?wT ?aK)) | ext hI)
 | str b=>cases (show v=?O b from h);cases e<;>first | (cases (?wT V.str);rfl) | (exfalso;first | (cases (?wT V.str)) | ext hI)
 | tup ds =>
   obtain⟨a,vs,rfl,q,r⟩:=h;cases e with
   | tup es =>
     ext hH;have e1:=I.tuple_inj q q';subst e1;rw[?oM]
   | lst es =>
     ext hH;exact(jE I q q').elim
   | non=>ext bB
   | bl _=>ext bB
   | int _=>ext bB
   | str _=>ext bB
 | lst ds =>
   obtain⟨a,vs,rfl,q,r⟩:=h;cases e with
   | lst es =>
     ext hH;have e1:=?oB q q';subst e1;rw[?oM]
   | tup es =>
     ext hH;exact(jE I q' q).elim
   | non=>ext bB
   | bl _=>ext bB
   | int _=>ext bB
   | str _=>ext bB
 theorem Reps.inj[?s][?f9]{ds es:?y}(h:?dE)(h':?r X.K H vs es):ds=es:=by
 cases ds with
 | nil =>
   cases (show vs=[] from h);cases es with
   | nil=>rfl
   | cons e es=>ext eY
 | cons d ds =>
   obtain⟨v,r,rfl,h1,h2⟩:=h;cases es with
   | nil=>cases (show v::r=[] from h')
   | cons e es =>
     obtain⟨v',r',z,dJ,h2'⟩:=h';cases z;rw[?kW I h1 dJ,?tH I h2 h2']
end
noncomputable def EqD(X:Cx)(H:Hp)(s:Shared)(d:D):Prop:=∀(A:Around) (x y:V) (u v:Value) (e:D),A.units+dep d<cLine->?kV->Rep X.K H y e->RelV x u->RelV y v->RcAt A s u v ?v0/\EqAt A s u v ?v0
theorem NB[?s]{ds es:?y}{vs ws:?j}{us us':?x}{A:Around}(hu:?sW)(r:?dE)(r':?r X.K H ws es)(rv:?gS)(DZ:?a8 ws us')
 (ih:?mY) (hdm:∀d∈ds,?rY):∀j (h1:j<us.toArray.size) (h2:j<us'.toArray.size),EqAt A s ?oL ?mP (match ds[j]?,es[j]? with | ?cS,?c y=>eqD x y | _,_=>true):=by
 intro j h1 h2;ext lV;have dJ:j<us.length:=by simpa using h1
 have h2':j<us'.length:=by simpa using h2
 have e1:ds[j]?=?c (?rJ):=?aS
 have e2:es[j]?=?c (es[j]' ?cM):=?aS
 obtain⟨v,ev,rd⟩:=?eB e1;obtain⟨w,ew,re⟩:=r'.get e2;obtain⟨u,eu,ru⟩:=?gF ev;obtain⟨u',eu',NI⟩:=DZ.get ew
 have f1:?oL=u:=by
  have:us[j]?=?c us[j]:=?I
  rw[eu]at this;have:=?lC;ext bC
 have f2:?mP=u':=by
  have:us'[j]?=?c us'[j]:=?I
  rw[eu']at this;have:=?lC;ext bC
 rw[f1,f2,e1,e2];have hm:?rJ∈ds:=qe4 _;exact(ih _ hm A v w u u' _ (by have:=hdm _ hm;omega) rd re ru NI).2
theorem Xj:∀{ds:?y}{d:D},d∈ds->?rY
 | ?jO,d,h=>by
   simp only[deps];rcases ?bG h with rfl | h
   . omega
   . have:=Xj h;omega
theorem AH{a b:?y}(h:¬?fB):?eE=false:=by
 cases q:eqDs a b with
 | false=>rfl
 | true=>exact ?H (?qX q) h
mutual
theorem HS[?s](d:D):?r7:=by
 intro A x y u v e hu hx hy rx ry;cases d with
 | non =>
   cases (show x=.non from hx);cases (show u=Value.none from rx);cases e with
   | non=>ext d6;exact⟨.none_none,?kC⟩
   | bl b=>ext d5;exact⟨.none_bool b,.none_bool b⟩
   | int i=>cases (?x7 ?w);ext f2;exact⟨.none_int i t,.none_int i t⟩
   | str z=>cases (?xS z);ext f2;exact⟨.none_str z t,.none_str z t⟩
   | tup es=>ext bA;ext hJ;exact⟨?n6,?n6⟩
   | lst es=>ext bA;ext hK;exact⟨?sE,?sE⟩
 | bl c =>
   cases (show x=.bl c from hx);cases (show u=Value.bool c from rx);cases e with
   | non=>ext d6;exact⟨.bool_none c,.bool_none c⟩
   | bl b=>ext d5;exact⟨.bool_bool c b,.bool_bool c b⟩
   | int i=>cases (?x7 ?w);ext f2;exact⟨?tX,?tX⟩
   | str z=>cases (?xS z);ext f2;exact⟨?r5,?r5⟩
   | tup es=>ext bA;ext hJ;exact⟨?qI,?qI⟩
   | lst es=>ext bA;ext hK;exact⟨?rI,?rI⟩
 | int c =>
   cases (show x=.int c from hx);obtain⟨t,rfl⟩:=rx;cases e with
   | non=>ext d6;exact⟨.int_none c t,.int_none c t⟩
   | bl b=>ext d5;exact⟨?r6,?r6⟩
   | int i=>ext hE;exact⟨?u7,?u7⟩
   | str z=>ext hF;exact⟨?uP,?uP⟩
   | tup es=>ext bA;ext hJ;exact⟨?mU,?mU⟩
   | lst es=>ext bA;ext hK;exact⟨?pT,?pT⟩
 | str c =>
   cases (show x=.str c from hx);obtain⟨t,rfl⟩:=rx;cases e with
   | non=>ext d6;exact⟨.str_none c t,.str_none c t⟩
   | bl b=>ext d5;exact⟨?sN,?sN⟩
   | int i=>ext hE;exact⟨?pA,?pA⟩
   | str z=>ext hF;exact⟨?oH,?oH⟩
   | tup es=>ext bA;ext hJ;exact⟨?uG,?uG⟩
   | lst es=>ext bA;ext hK;exact⟨?mO,?mO⟩
 | tup ds =>
   ext w2;obtain⟨its,rv,p,_⟩:=?aJ q;ext vP
   cases e with
   | non=>ext d6;exact⟨?u2,?u2⟩
   | bl b=>ext d5;exact⟨?u0,?u0⟩
   | int i=>ext hE;exact⟨?oK,?oK⟩
   | str z=>ext hF;exact⟨?pP,?pP⟩
   | lst es=>ext hG;obtain⟨its',_,p',_⟩:=?aL q';exact⟨?t3,?t3⟩
   | tup es =>
     have hy':=hy;ext hG;obtain⟨its',DZ,p',_⟩:=?aJ q'
     have main:?xV ?bL ?q:=by
      have:=RcAt.tuples (A:=A) p p' O9m (?wQ h);ext lV;ext w1
      ext w0
      rw[e1,e2]at this;ext w9
      . rw[?uH];rw[←hl,qw5]at this;ext bC
      . rw[AH hl];have z:(ds.length==es.length)=false:=by simpa using hl
        rw[z,Bool.and_false]at this;exact this
     refine ?oG;by_cases hab:a=b
     . subst hab;have e3:D.tup ds=D.tup es:=?tW;rw[e3,Zn];exact ?kC
     . exact ?rP
 | lst ds =>
   ext w2;obtain⟨its,rv,p,_⟩:=?aL q;ext vP
   cases e with
   | non=>ext d6;exact⟨?qK,?qK⟩
   | bl b=>ext d5;exact⟨?pF,?pF⟩
   | int i=>ext hE;exact⟨?oV,?oV⟩
   | str z=>ext hF;exact⟨?qV,?qV⟩
   | tup es=>ext hG;obtain⟨its',_,p',_⟩:=?aJ q';exact⟨?s9,?s9⟩
   | lst es =>
     have hy':=hy;ext hG;obtain⟨its',DZ,p',_⟩:=?aL q'
     have main:?xV ?eG ?h:=by
      ext lV;ext w1
      ext w0
      ext w9
      . have:=RcAt.lists (A:=A) ?F ?kQ O9m O9m (?wQ h);rw[e1]at this;rw[?uH];exact this
      . rw[AH hl];exact RcAt.lists_lengths ?F ?kQ (by simpa[e1,e2]using hl) O9m
     refine ?oG;by_cases hab:a=b
     . subst hab;have e3:D.lst ds=D.lst es:=?tW;rw[e3,Zn];exact ?kC
     . exact ?rP
 theorem eqDs_ok[?s][?f7]:?mY:=by
 cases ds with
 | nil=>exact fun _ h=>?gR
 | cons d0 r =>
   intro d h;rcases ?bG h with e | h
   . exact e▸HS I d0
   . exact eqDs_ok I r d h
end
universe e9
universe L2
namespace L2
open PySem PySem.Spec PyProof.Rows PySem.SeqAt
section
variable{X:Cx}
noncomputable def VM(X:Cx)(H:Hp)(d:D)(u:Value):Bool:=@decide (∃v e,RelV v u/\?l1/\?i3=true) (?xA _)
theorem HQ[?Z][?s]{d e:D}{v:V}{u:Value}(r:RelV v u)(h:?l1):VM X H d u=?i3:=by
 cases q:eqD e d with
 | true=>exact @qf8 _ (?xA _) ⟨v,e,r,h,q⟩
 | false =>
   refine @qj2 _ (?xA _) ?_;rintro ⟨v',e',r',h',q'⟩;have:=r.inj r';subst this;rw[?kW I h h']at q;rw[q]at q';cases q'
theorem HR[?Z][?s]{A:Around}{x:V}{v:Value}{d:D}[?f9][?c2]{ds:?y}(hu:?sW)(hx:?kV)(rx:?c9)
 (r:?dE) (rv:?gS):∀y,y∈us.toArray->EqAt A s y v (VM X H d y):=by
 intro y hy;have hy':y∈us:=by simpa using hy
 obtain⟨i,hi⟩:=qg1 hy';have hlt:i<us.length:=?h6;have l1:=rv.length;obtain⟨w,hw⟩:∃w,vs[i]?=?dG:=⟨vs[i]' ?cM,?aS⟩
 obtain⟨u,YB,ru⟩:=?gF hw;rw[hi]at YB;cases YB;obtain⟨e,he,re⟩:=r.getV hw;rw[HQ I ru re];have hm:e∈ds:=qb0 he;exact(HS I e A w x y v d (by have:=Xj hm;omega) re hx ru rx).2
theorem JV[?Z][?s]{d:D}:∀[?f9][?c2]{ds:?y},?dE->?gS->us.any ?e1=?fR
 | vs,us,[],r,rv=>by
   cases (show vs=[] from r);cases rv;rfl
 | vs,us,e::ds,r,rv=>by
   obtain⟨v,q,rfl,h1,h2⟩:=r;cases rv with
   | cons r1 r2=>rw[ql8,ql8,HQ I r1 h1,JV I h2 r2]
noncomputable def Ao3[?d](H:Hp)(y:V)[?f7]:Prop:=?xP y (?eG)\/?xP y (?bL)
inductive vX[?d](n:Nat)(neg:Bool)[?c7][?u]:Prop
 | mk:∀d ds,?e0->(Ao3 K H y ds)->(?aN+1<=n)->(?x6 (if neg then !(?fR) else ?fR))->?p8
noncomputable def Af0[?d](n:Nat)(neg:Bool):R2:=?x1 ?p8
theorem LA{n:Nat}[?hV]:?xI X.K:=by
 ext eX;obtain⟨d,ds,hx,hs,hn,q⟩:=h
 have fin:∀[?c2][?f9],?dE->?gS->?y1 (?cT (!us.toArray.any ?e1)) s:=fun r rv =>
  ⟨.bl (!(?fR)),H,I,by show ?gP _=?gP _;rw[List.any_toArray,JV I r rv],q⟩
 rcases hs with⟨a,vs,rfl,hq,r⟩|⟨a,vs,rfl,hq,r⟩
 . cases ry;obtain⟨its,rv,p,_⟩:=?aR;exact ?x2 notIn_listAt ?F
 . cases ry;obtain⟨its,rv,p,_⟩:=?fX;exact ?x2 notIn_tupleAt p
inductive KA[?d](n:Nat)(x:V)(vs:?j)[?u]:Prop
 | mk:∀ds y d j,?uN->(?xP x (?eG))->(?xP y d)->(?aN+1<=n)->(ds.findIdx? (?pD)=?aC)->(Q (?sB) H)->?r9
noncomputable def NK[?d](n:Nat):?dP:=fun x vs H Q=>?r9
theorem OM{n:Nat}[?hV]:MtR X ?rK (NK X.K n):=by
 ext m5;obtain⟨ds,y,d,j,rfl,⟨a,ws,rfl,hq,r⟩,hy,hn,hj,q⟩:=h;ext m4;obtain⟨its,rw',p,hz⟩:=?aR;have l1:=r.length;have l2:=rw'.length;obtain⟨hlt,hit,hno⟩:=List.findIdx?_eq_some_iff_getElem.mp hj
 have at':∀m (hm:m<its.toArray.size) (hm':m<ds.length),VM X H d ?rN=eqD ds[m] d:=fun m hm hm'=>by
  obtain⟨w,hw,re⟩:=?eB (i:=m) (d:=ds[m]) ?D;obtain⟨u',hu',NI⟩:=rw'.get hw
  have e1:?rN=u':=by
   have hm2:m<its.length:=by simpa using hm
   have:its[m]?=?c its[m]:=?I
   rw[hu']at this;have:=?lC;ext bC
  rw[e1];exact HQ I NI re
 obtain⟨o,k,ho,hc,hdn,hd⟩:=id p;obtain⟨cls,dd,data,sl⟩:=o;simp only at hc hdn hd;subst hc hdn hd;have hsz:?xG ds.length:=O9m
 have big:?tC<2 ^ 62:=by rw[sizeLine_eq];decide
 refine ?e2 PySem.F.slot_list_index ?kP PySem.F.entry_list_index (PySem.F.args_list_index_2 _ _)
  (list_indexAt a ?A k ?Q sl u ?e1 j (?aS) O9m ?_ ?_) ⟨ho,HR I (A:=X.A.in1) (by ext m8) hy ru r rw',?_⟩
 . rw[at' j (?aS) hlt];exact hit
 . intro m hm hmj;rw[at' m hm ?J];have:=hno m hmj;ext bC
 . exact⟨?sB,H,I.tok _,?jU,q⟩
noncomputable def jK(n:String):?k1
 | ?T=>false
 | .bl _=>n==?aF || n==?d4
 | ?f _=>n==?aF
 | ?O _=>n==?eH
 | ?q _=>n==?b2
 | ?h _=>n==?aH
noncomputable def tyD:D->String
 | ?T=>"NoneType"
 | .bl _=>?d4
 | ?f _=>?aF
 | ?O _=>?eH
 | ?q _=>?b2
 | ?h _=>?aH
theorem XR[?bE]{n:String}{d:D}(hn:?j6):PySem.W.kitOne K (?X (tyD d)) (?X n)=?c (jK n d):=by
 rcases hn with rfl | rfl | rfl | rfl | rfl | rfl<;>cases d<;>(unfold PySem.W.kitOne PySem.W.kitCls PySem.W.subIn tyD jK;first | rfl | ext a0)
theorem FJ:?yH ?fC (fun xs H Q=>∃x n d,xs=[x,.ty n]/\(?j6)/\?kV/\?x6 (jK n d)):=by
 ext eZ;obtain⟨x,n,d,rfl,hn,hx,q⟩:=h;obtain⟨u,v,rfl,rx,rt⟩:=Xo r;cases rt;have k:=XR (K:=X.K) (d:=d) hn;have fin:∀tk,EP X Ac σ Q (?cT (jK n d)) { s with toks:=tk }:=fun tk=>⟨.bl (jK n d),H,I.tok tk,rfl,q⟩
 cases d with
 | non=>cases (?yB ?T);cases (show u=Value.none from rx);exact ?wR PySem.W.kitx_none ?g3
 | bl b=>cases (?yB ?bV);cases (show u=?gP b from rx);exact ?wR PySem.W.kitx_bool ?g3
 | int b=>cases (?yB ?e9);obtain⟨t,rfl⟩:=rx;exact ?wR PySem.W.kitx_int ?g3
 | str b=>cases (show x=?O b from hx);obtain⟨t,rfl⟩:=rx;exact ?wR PySem.W.kitx_str ?g3
 | tup ds =>
   obtain⟨a,vs,rfl,hq,_⟩:=hx;cases rx;obtain⟨its,_,⟨o,e,c,_⟩,_⟩:=?fX;exact ?wR PySem.W.kitx_tuple ?sU
 | lst ds =>
   obtain⟨a,vs,rfl,hq,_⟩:=hx;cases rx;obtain⟨its,_,⟨o,_,e,c,_⟩,_⟩:=?aR;exact ?wR PySem.W.kitx_list ?sU
inductive qJ[?d][?c7][?u]:Prop
 | mk:∀a b xs ys,?eA->(y=?g b)->?h9->(Dl K H b ys)->(?xK ys.length)->?y5 (xs++ys) ?uI
noncomputable def uU[?d]:R2:=?x1 ?uI
theorem SI:?xQ uU X.K:=by
 ext eX;obtain⟨a,b,xs,ys,rfl,rfl,ha,hb,hz,q⟩:=h;by_cases hx:xs=[]
 . subst hx;ext vF;cases r1;obtain⟨⟨cls,dd,data,sl⟩,ho,hc,n,hd⟩:=id p1;obtain⟨⟨An8,dd2,data2,sl2⟩,ho2,hc2,n2,hd2⟩:=id p2;ext w8
   exact ?t7 ?kP ?nG noFill_tuple_add seq_tuple_add qs7 qr8 (qr0 _ _)
    (tuple_addW0 a b _ _ n n2 dd dd2 sl sl2 ?D) ⟨ho,ho2,⟨?g b,H,I,rfl,q b H (Same.refl H) (?fY)⟩⟩
 . refine sJ Ac s σ H ?bQ (?g b) v u Q I rx ry ⟨a,b,xs,ys,rfl,rfl,ha,hb,hx,hz,fun e=>?_,fun e p hp=>?_⟩
   . subst e;exact q a H (Same.refl H) (by simpa using ha)
   . exact ?pK
inductive QH[?d][?mB][?u]:Prop
 | mk:∀a xs,?eA->?h9->(¬(?b5=0/\?y8 ?dI))->?y5 (?cH) ?u1
noncomputable def uT[?d]:?eD:=?xY ?u1
theorem rF:ZW X (uT X.K):=by
 ext m0;obtain⟨a,xs,rfl,hx,hw,q⟩:=h;exact WO Ac s σ H ?bQ v vl vu lo hi sl Q I rx hs pl pu ⟨a,xs,rfl,hx,hw,fun p hp=>?pK⟩
inductive kD[?d][?c7][?u]:Prop
 | mk:∀l b xs zs,?gG->(y=?g b)->(?xO l xs)->(?xO b zs)->(?xK zs.length)->(?wN (?h (xs++zs)))->?nO
noncomputable def NL[?d]:R2:=?x1 ?nO
theorem oB:?xQ NL X.K:=by
 ext eX;obtain⟨l,b,xs,zs,rfl,rfl,hl,hb,hz,q⟩:=h;cases rx;cases ry;obtain⟨its,r1,p1,_⟩:=?aL hl;obtain⟨its2,r2,p2,_⟩:=?aL hb;obtain⟨⟨cls,dd,data,sl⟩,n,ho,hc,hdd,hd⟩:=id p1;obtain⟨⟨An8,dd2,data2,sl2⟩,n2,ho2,hc2,hdd2,hd2⟩:=id p2;ext w8
 refine ?t7 ?kP ?nG noFill_list_add seq_list_add PySem.F.slot_list_add PySem.F.entry_list_add (PySem.F.args_list_add_2 _ _)
  (list_addW l b ?A its2.toArray n n2 dd dd2 sl sl2 (by rw[qc1,qc1,←r1.length,←r2.length];exact hz)) ⟨ho,ho2,?_⟩
 rw[show its.toArray++its2.toArray=(its++its2).toArray by simp];exact⟨?bP,_,I.lnew (t':=s.toks) (r1.append r2) (?tB),rfl,?nA⟩
theorem MH[?hY]:?yH "all" (fun xs H Q=>∃(p:Addr) (bs:?rO),?dB/\SqL X.K H p (bs.map V.bl)/\?x6 (bs.all id)):=by
 ext eZ;obtain⟨p,bs,rfl,hq,q⟩:=h;obtain⟨u,rfl,ru⟩:=Sk r;cases ru;obtain⟨its,rv,pl,hz⟩:=?aR;have hh:X.A.handled=none:=?tS
 have rel:∀(i:Nat) (v:Value),its.toArray[i]?=?z->∃b,?fV=?c b/\v=?cT b:=fun i v e=>by
  have e':its[i]?=?z:=?nU
  have hlt:i<its.length:=(?cE e').1;have l1:=rv.length;rw[qa4]at l1;have hb:?fV=?c (bs[i]' ?cM):=?aS
  obtain⟨u,hu,ru⟩:=?gF (i:=i) (x:=V.bl (bs[i]' ?cM)) (by rw[qa9,hb];rfl);rw[e']at hu;cases hu;exact⟨_,hb,ru⟩
 refine call_all_walk (qs9 ?cV ?_);refine⟨?G,[s.heap.objs.size,p],[s.heap.objs.size],?i8,_,_,?mN,rfl,Walks.list (show X.A.in1.handled=none from hh) ?G p ?_ ?A,⟨⟨_,?g1,rfl,rfl⟩,?_⟩,?_,fun h' tk k=>?_⟩
 . obtain⟨o,_,ho,_⟩:=pl;exact qc7 (qb2 ho)
 . exact pl.isList.at fun o e=>?g9
 . intro i v s' Q' E' hv hQ;obtain⟨b,hb,rfl⟩:=rel i v hv;dsimp only at hQ;rw[hb]at hQ;exact qj4 hQ
 . have e:(?cD ?i8).all (?mN)=bs.all id:=by
    have l1:=rv.length;rw[qa4]at l1;rw[qc1,←l1];rw[ql6,qe1,qe1];constructor
    . intro hx b hb;obtain⟨i,hi⟩:=qg1 hb;have:=hx i (qe5.mpr ?h6);rw[hi]at this;exact this
    . intro hx i hi;have hlt:=qe5.mp hi;have hb:?fV=?c bs[i]:=?I
      rw[hb];exact hx _ (qe4 _)
   rw[e];have I1:Bl X Ac σ H { s with heap:=h',toks:=tk }:=I.kept (fun b o e=>k b o (by simp;exact qc7 (?fM)) (?g9));exact⟨.bl (bs.all id),H,I1,rfl,q⟩
universe e9
structure Has(P:Program)(w:World)[?d](mg:?g8)(base:Heap)(x:Str)(ps:?b1)(k:Nat)(sp:Sp):Prop where
 ex:∃(f:Addr) (fd:FuncData),mg x=?c (?g f)/\?jA/\?p0/\?xW k
section
variable{X:Cx}[?vM]
theorem An(h:Has ?cK X.w X.K X.mg X.base x ps j sp)(hr:Gc k X.A)(ha:?t9)(hg:Gl X x:=by rfl)(hk:j<=k:=by decide)(hdb:?t1:=by decide)
 (he:?i7=(?d0,eval e ?l)::?g0:=by rfl) (hpl:(?jZ pos (?g0)).any (·.1)=false:=by rfl):PE X (.Call (?h5 x p) ?e7 [] pos) (tCall sp [] E0 t):=by
 obtain⟨f,fd,h1,h2,h3,h4⟩:=h.ex;exact SG h4 (hr.mono hk) hg h1 h2 h3 ?R EC ha hdb he hpl
universe e9
theorem boot_intT:?W ?aF=?c (?X ?aF):=?a4
theorem Z3:?W ?d4=?c (?X ?d4):=?a4
theorem Je:?W ?b2=?c (?bY):=?a4
theorem Ez:?W ?aH=?c (?S):=?a4
theorem Du:?W ?h4=?c (?X ?h4):=?a4
theorem AY:?W "max"=?c (?K "max"):=?a4
theorem MJ:?W "min"=?c (?K "min"):=?a4
theorem Qg:?W "all"=?c (?K "all"):=?a4
theorem Bz:?W ?fC=?c (?K ?fC):=?a4
universe L2
namespace L2
open PySem PySem.Spec PyProof.Rows
section
variable{X:Cx}[?bE]{tg l:Expr}{tl:TE}{n:Nat}
theorem E6.imp{X:Cx}{f:Value}{r r':?bM}(h:E6 X f r)(i:∀xs H Q,r' xs H Q->r xs H Q):E6 X f r':=fun Ac s σ H xs us Q I v q=>h Ac s σ H xs us Q I v (i xs H Q q)
inductive QI[?d][?a3][?u]:Prop
 | mk:?yM (Q (?f ys.length) H) ?nW
noncomputable def Ae7[?d]:?bM:=?xL ?nW
inductive fS[?d][?a3][?u]:Prop
 | mk:?yM (?sY) ?s5
noncomputable def RL[?d]:?bM:=?xL ?s5
inductive JY[?d][?a3][?u]:Prop
 | mk:∀p ys,?h0->(((?jI/\?pB)\/(?k9/\Q ?a5 H)))->?o9
noncomputable def WS[?d]:?bM:=?xL ?o9
inductive fT[?d][?a3][?u]:Prop
 | mk:∀x n d,(xs=[x,.ty n])->((?j6))->?e0->(?x6 (jK n d))->?uZ
noncomputable def RM[?d]:?bM:=?xL ?uZ
inductive qK[?d][?a3][?u]:Prop
 | mk:∀(p:Addr) (bs:?rO),?h0->(?xO p (bs.map V.bl))->(?x6 (bs.all id))->?q3
noncomputable def Af2[?d]:?bM:=?xL ?q3
theorem Te[?t]:?xQ uU K:=by subst hK;exact SI
theorem U2[?t]:?xQ NL K:=by subst hK;exact oB
theorem Kt[?t]:ZW X (uT K):=by subst hK;exact rF
theorem Mr[?t]:ZW X (Ae5 K):=by subst hK;exact rG
theorem Bd[?t]:IxR X (Ae9 K):=by subst hK;exact tK
theorem Be[?t]:IxR X (Ae8 K):=by subst hK;exact xV
theorem Ay[?t]:?yH "len" (Ae7 K):=?yA cY
theorem F8[?t]:E6 X (?S) (RL K):=?yA cX
theorem Ku[?t]:E6 X (?bY) (WS K):=by subst hK;exact(w9).imp fun _ _ _ z=>by obtain⟨p,ys,a,b⟩:=z;exact⟨p,ys,a,b⟩
theorem Eb[?t]:?yH ?fC (RM K):=by subst hK;exact(FJ).imp fun _ _ _ z=>by obtain⟨x,n,d,a,b,c,e⟩:=z;exact⟨x,n,d,a,b,c,e⟩
theorem Nz[?hY][?t]:?yH "all" (Af2 K):=by subst hK;exact(MH hc).imp fun _ _ _ z=>by obtain⟨p,bs,a,b,c⟩:=z;exact⟨p,bs,a,b,c⟩
theorem Ny[?hV][?t]:?xI K:=?x8 LA hu
theorem LI[?hV][?t]:MtR X ?rK (NK K n):=?x8 OM hu
theorem Cd(hl:?sP)[?t]:PI X tg l (vJ K tl):=?x8 RX hl
theorem Qc(hl:?sP)[?t]:PI X tg l (Aj1 K tl):=?x8 WW hl
variable[?vG]
theorem Gn[?v8][?t]
 [?vR]
 (hfew:(?qB
   && ?wP 1)=true:=by rfl)
 [?v9] (hplain:?lG (·.1)=false:=by rfl) :
 ?wV K:=by subst hK;exact Af6 pa slot hty hm ho ha hbase hfew hline hs hplain
theorem Dy{es:?cL}{k:Nat}{t:QU}{n:Nat}{pos:Pos}[?hY](h:PGs X es t)[?t]
 (hn:(?rL).length=n:=by rfl) (hst:(?rL).findIdx? (·.1)=none:=by rfl):PG X (.Tuple es k pos) (Al9 K n t):=by subst hK;exact wX hc h hn hst
universe e9
universe L2
namespace Hb
noncomputable def Aw[?a1](fam:Int):At :=
 if ?eM then(if w.length<2 then [] else(?cD w.length).map fun i=>w.take i++?jC ?aE)
 else if ?p4 then []
 else if ?aT then(if ?qG then [[],[]] else w.map fun l=>[l])
 else ?jC 1::((?cD (?lM)).map fun i=>w.take i++[(w.getD i 0+w.getD ?aE 0)%fam]++?jC (i+2))++[w.take (?lM)]
noncomputable def Fd(fam:Int)[?a1]:Prop :=
 (?eM/\1<=w.length/\w.length<=4)\/(?aT/\(?p4\/?qG\/?oE))\/(?cO/\w.length<=3)
noncomputable def lv(fam:Int)[?a1]:Nat:=if ?eM then ?lM else if ?aT then(if ?oE then 2 else w.length) else w.length
theorem Rc[?c8][?c5](h:?v) :
 (?eM/\((∃a,w=[a])\/(∃a b,w=?aO)\/(?iD)\/∃a b c d,w=?l4)) ∨
 (?aT/\(w=[]\/(∃a,w=[a])\/?iD)) ∨
 (?cO/\(w=[]\/(∃a,w=[a])\/(∃a b,w=?aO)\/?iD)):=by
 rcases h with⟨h0,h1,h2⟩|⟨h0,h1⟩|⟨h0,h1⟩
 . left;refine ?jB
   match w,h1,h2 with
   | [a],_,_=>exact ?i ⟨a,rfl⟩
   | ?aO,_,_=>exact ?e (?i ⟨a,b,rfl⟩)
   | ?bN,_,_=>exact ?e (?e (?i ?k5))
   | ?l4,_,_=>exact ?e (?e (?e ⟨a,b,c,d,rfl⟩))
   | _::?l0,_,h=>simp at h
 . right;left;refine ?jB
   match w,h1 with
   | [],_=>exact ?cI
   | [a],_=>exact ?e (?i ⟨a,rfl⟩)
   | ?aO,h=>simp at h
   | ?bN,_=>exact ?e (?e ?k5)
   | ?l0,h=>simp at h
 . right;right;refine ?jB
   match w,h1 with
   | [],_=>exact ?cI
   | [a],_=>exact ?e (?i ⟨a,rfl⟩)
   | ?aO,_=>exact ?e (?e (?i ⟨a,b,rfl⟩))
   | ?bN,_=>exact ?e (?e (?e ?k5))
   | ?l0,h=>simp at h
theorem Am7(a:Int):Aw [a] 0=[]:=rfl
theorem Am6(a b:Int):Aw ?aO 0=[[b],[a]]:=rfl
theorem YS(a b c:Int):Aw ?bN 0=[[b,c],[a,c],?aO]:=rfl
theorem yS(a b c d:Int):Aw ?l4 0=[[b,c,d],[a,c,d],[a,b,d],?bN]:=rfl
section
variable[?c8]
theorem Am5(h:?aT):?y2 []=[]:=?mT
theorem pK(h:?aT)(a:Int):?y2 [a]=[[],[]]:=by unfold Aw;rw[?dR,?eN,?n h,?lB]
theorem yQ(h:?aT)(a b c:Int):?o3=[[a],[b],[c]]:=by unfold Aw;rw[?dR,?eN,?n h,?eN];rfl
theorem Am3(h:?cO):?y2 []=[]:=?mT
theorem pJ(h:?cO)(a:Int):?y2 [a]=[[],[]]:=?iA
theorem CH(h:?cO)(a b:Int):?y2 ?aO=[[b],[?uB],[a]]:=?iA
theorem yP(h:?cO)(a b c:Int):?o3=[[b,c],[?uB,c],[a,(b+c)%fam],?aO]:=?iA
theorem N7{w f:?k}(h:?v)(hf:f∈?N):Fd fam f/\lv fam f+1=?d1:=by
 ext lS
 . subst h0;rw[Am7]at hf;exact ?l7
 . subst h0;rw[Am6]at hf;ext d7;rcases hf with rfl | rfl<;>simp[Fd,lv]
 . subst h0;rw[YS]at hf;ext d7;rcases hf with rfl | rfl | rfl<;>simp[Fd,lv]
 . subst h0;rw[yS]at hf;ext d7;rcases hf with rfl | rfl | rfl | rfl<;>simp[Fd,lv]
 . rw[Am5 h0]at hf;exact ?l7
 . rw[?eL]at hf;ext w4;ext c1
   simp[Fd,lv,h0,e]
 . rw[yQ h0]at hf;ext c1
   ext d7;rcases hf with rfl | rfl | rfl<;>simp[Fd,lv,h0,e]
 . rw[Am3 h0]at hf;exact ?l7
 . rw[?dC]at hf;ext c1
   ext f3
   ext w4;simp[Fd,lv,h0,e,e']
 . rw[?aI]at hf;ext c1
   ext f3
   ext d7;rcases hf with rfl | rfl | rfl<;>simp[Fd,lv,h0,e,e']
 . rw[yP h0]at hf;ext c1
   ext f3
   ext d7;rcases hf with rfl | rfl | rfl | rfl<;>simp[Fd,lv,h0,e,e']
theorem Kb[?c5](h:?v):?nM=(if ?gN then 0 else ?d1+1)/\?d1<=3:=by
 ext lS
 . subst h0;simp[Am7,lv]
 . subst h0;simp[Am6,lv]
 . subst h0;simp[YS,lv]
 . subst h0;simp[yS,lv]
 all_goals ext c1
 . simp[Am5 h0,lv,e,h0]
 . simp[?eL,lv,e,h0]
 . simp[yQ h0,lv,e,h0]
 all_goals ext f3
 . simp[Am3 h0,lv,e,e']
 . simp[?dC,lv,e,e']
 . simp[?aI,lv,e,e']
 . simp[yP h0,lv,e,e']
theorem faces_agree{w f g:?k}{i j:Nat}(h:?v)(hl:2<=?d1)(hij:i<j)(hf:?cY[j]?=?c f)(hg:?cY[i]?=?c g):(?pQ)[i]?=(?y2 g)[j-1]?:=by
 have hj:j<?nM:=(?cE hf).1;ext lS
 . subst h0;simp[lv]at hl
 . subst h0;simp[lv]at hl
 . subst h0;rw[YS]at hf hg hj;ext lX
   ext lZ
   . ext o;rfl
   . ext o;rfl
   . ext o;rfl
 . subst h0;rw[yS]at hf hg hj;ext vA
   ext vC
   . ext o;rfl
   . ext o;rfl
   . ext o;rfl
   . ext o;rfl
   . ext o;rfl
   . ext o;rfl
 all_goals ext c1
 . simp[lv,e,h0]at hl
 . simp[lv,e,h0]at hl
 . rw[yQ h0]at hf hg hj;ext lX
   ext lZ
   . ext o;simp[?eL]
   . ext o;simp[?eL]
   . ext o;simp[?eL]
 all_goals ext f3
 . simp[lv,e,e']at hl
 . simp[lv,e,e']at hl
 . rw[?aI]at hf hg hj;ext lX
   ext lZ
   . ext o;simp[?dC]
   . ext o;simp[?dC]
   . ext o;simp[?dC]
 . rw[yP h0]at hf hg hj;ext vA
   ext vC
   . ext o;simp[?aI]
   . ext o;simp[?aI]
   . ext o;simp[?aI]
   . skip
     ext o;simp only[?aI,List.getElem?_cons_succ,qs0,Nat.add_one_sub_one]
     congr 2
     rw[Int.add_emod_emod,Int.emod_add_emod,Int.add_assoc]
   . ext o;simp[?aI]
   . ext o;simp[?aI]
universe e9
noncomputable def lev[?f6]:Nat:=p.length-1
structure Ap6(xs:At)[?f6]:Prop where
 cnt:p.length=0\/p.length=2\/p.length=3\/p.length=4
 low:∀f∈p,0<=f
 bel:∀f∈p,∃q,?o1/\lev q+1=lev p
 agr:3<=p.length->∀(i j:Nat) (f g:Int) (q r:?k),i<j->p[j]?=?c f->p[i]?=?c g->?o1->xs[g.toNat]?=?c r->q[i]?=r[j-1]?
noncomputable def Ef(xs:At):Prop:=∀(k:Nat) [?f6],xs[k]?=?c p->Ap6 (?s3) p
noncomputable def JX(fam:Int)(ws:At):Prop:=∀(k:Nat) [?a1],?rX->?v/\∀f∈?N,f∈ws.take k
theorem JX.nil[?c8]:JX fam []:=fun k w h=>?kX
theorem JX.snoc[?c8]{ws:At}[?c5][?i1](hw:?v)(hf:?iN):JX fam (?j5):=by
 intro k v hk;by_cases hlt:k<ws.length
 . rw[qd1 hlt]at hk;rw[qo7 ?J];exact h k v hk
 . have hk':k<(?j5).length:=(?cE hk).1;have e:k=ws.length:=by simp at hk';omega
   subst e;simp at hk;subst hk;rw[qo7 ?aD,qd2];exact⟨hw,hf⟩
theorem JX.mem[?c8]{ws:At}[?i1][?c5](hw:w∈ws):?v/\?iN:=by
 obtain⟨k,hk⟩:=qg1 hw;obtain⟨h1,h2⟩:=h k w hk;exact⟨h1,fun f hf=>qp0 (?g5)⟩
noncomputable def E3(ws:At):At->At
 | []=>ws
 | ?bS=>E3 (?iT) r
theorem b6:∀(rows ws:At),(?dS).length<=ws.length+rows.length
 | [],ws=>by simp[E3]
 | ?bS,ws=>by
   have h1:=b6 r (?iT)
   have h2:(?iT).length<=ws.length+1:=by
    split
    . omega
    . simp
   simp only[E3,qd0];omega
theorem a9[?c8]:∀(rows ws:At),?r8->(∀(k:Nat) [?a1],rows[k]?=?dG->?v/\∀f∈?N,?cG\/f∈rows.take k)->JX fam (?dS)
 | [],ws,h,_=>h
 | ?bS,ws,h,hr=>by
   have h0:=hr 0 w rfl;have hw:?iN:=fun f hf=>(h0.2 f hf).resolve_right ?D;simp only[E3];refine a9 r _ ?_ fun k v hk=>?_
   . split
     . exact h
     . exact h.snoc h0.1 hw
   . obtain⟨h1,h2⟩:=hr (k+1) v (?k7);refine ?qR;rcases ?g5 with z | z
     . left;split
       . exact z
       . exact qm1 _ z
     . rw[List.take_succ_cons]at z;rcases ?bG z with z | z
       . left;subst z;split
         . assumption
         . simp
       . exact ?e z
noncomputable def C0(ws:At):?j3
 | acc,[]=>acc
 | acc,f::r=>C0 ws (?l5) r
theorem Z9{ws:At}[?dA]:∀[?f8],?k3->?dK\/x∈fs
 | [],acc,h=>?i h
 | f::r,acc,h=>by
   rcases Z9 r _ h with z | z
   . split at z
     . rcases ql2.mp z with z | z
       . exact ?aX
       . exact ?e (by simp at z;simp[z])
     . exact ?aX
   . exact ?e (qc5 _ z)
theorem P0{ws:At}[?dA]:∀[?f8],?dK->?k3
 | [],acc,h=>h
 | f::r,acc,h=>P0 r _ (by split;exact qm1 _ h;exact h)
theorem a8{ws:At}[?dA]:∀[?f8],x∈fs->?k0\/?k3
 | f::r,acc,h=>by
   ext hO
   . subst e;by_cases h1:?k0
     . exact ?i h1
     . right;refine P0 r _ ?_;by_cases h2:?dK
       . rw[?B (by simp[h2])];exact h2
       . rw[?n ⟨h1,h2⟩];simp
   . exact a8 r _ e
theorem Se{ws:At}:∀[?f8],?xM ?eP fs.length
 | [],acc=>by simp[C0]
 | f::r,acc=>by
   have h1:=Se (ws:=ws) r (?l5)
   have h2:?xM ?l5 1:=by
    split
    . simp
    . omega
   simp only[C0,qd0];omega
noncomputable def below[?i0]:?j3
 | acc,[]=>acc
 | acc,?bS=>?xZ (C0 ws acc ?cY) r
theorem Qi[?bD][?dA]:∀(l acc:At),?k6->?dK\/∃w∈l,x∈?N
 | [],acc,h=>?i h
 | ?bS,acc,h=>by
   rcases Qi r _ h with z|⟨v,hv,z⟩
   . rcases Z9 _ _ z with z | z
     . exact ?aX
     . exact ?e ⟨w,qe2,z⟩
   . exact ?e ⟨v,?uK,z⟩
theorem Z5[?bD][?dA]:∀(l acc:At),?dK->?k6
 | [],acc,h=>h
 | ?bS,acc,h=>Z5 r _ (P0 _ _ h)
theorem bD[?bD]{x w:?k}:∀(l acc:At),w∈l->x∈?N->?k0\/?k6
 | v::r,acc,h,hx=>by
   ext hO
   . subst e;rcases a8 (ws:=ws) _ acc hx with z | z
     . exact ?aX
     . exact ?e (Z5 r _ z)
   . exact bD r _ e hx
theorem Mz[?bD]:∀(l acc:At),(∀w∈l,?v)->?xM ?kO ?qY
 | [],acc,_=>by simp[below]
 | ?bS,acc,h=>by
   have h1:=Mz (ws:=ws) r (C0 ws acc ?cY) fun v hv=>h v (?uK);have h2:=Se (ws:=ws) ?cY acc;have h3:=Kb (h w qe2);simp only[below,qd0];split at h3<;>omega
theorem Wj(ws:At)(f:?k):∀[?f8],C0 ws acc (fs++[f])=(if ?pG/\f ∉ ?eP then ?eP++[f] else ?eP)
 | [],acc=>rfl
 | g::fs,acc=>Wj ws f fs _
theorem Z4[?i0][?a1]:∀(l acc:At),?xZ acc (l++[w])=C0 ws (?kO) ?cY
 | [],acc=>rfl
 | v::l,acc=>Z4 ws fam w l _
theorem Wk[?a1]:∀(rows ws:At),E3 ws (rows++[w])=(if w∈?dS then ?dS else ?dS++[w])
 | [],ws=>rfl
 | v::rows,ws=>Wk w rows _
noncomputable def Nv[?i0]:Nat->?j3
 | 0,layer,rows=>rows
 | n+1,layer,rows=>Nv ws fam n (?xZ [] layer) (layer++rows)
theorem AL[?bD]:∀(n:Nat) (layer rows:At),(∀w∈layer,?v/\?d1<n) →
 (∀(k:Nat) [?a1],rows[k]?=?dG->?v/\∀f∈?N,?cG\/f∈layer\/f∈rows.take k) →
 ∀(k:Nat) [?a1],(?oA)[k]?=?dG->?v/\∀f∈?N,?cG\/f∈(?oA).take k
 | 0,layer,rows,hl,hr,k,w,hk=>by
   obtain⟨h1,h2⟩:=hr k w hk;ext vU
   . exact ?aX
   . exact ?H (hl f z).2 O9m
   . exact ?e z
 | n+1,layer,rows,hl,hr,k,w,hk=>by
   refine AL n _ _ ?_ ?_ k w hk
   . intro v hv;rcases ?r4 with z|⟨u,hu,z⟩
     . exact ?lF
     . obtain⟨q1,q2⟩:=hl u hu;obtain⟨q3,q4⟩:=N7 q1 z;exact⟨q3,O9m⟩
   . intro m v hm;by_cases hlt:m<layer.length
     . rw[qd1 hlt]at hm;have hv:v∈layer:=qb0 hm;refine⟨(hl v hv).1,?nJ⟩;rcases bD (ws:=ws) layer [] hv hf with z | z
       . exact ?aX
       . exact ?e (?aX)
     . rw[qd6 ?J]at hm;obtain⟨h1,h2⟩:=hr _ v hm;ext vU
       . exact ?aX
       . right;right;rw[List.take_append];refine qm1 _ ?_;rw[qi8 ?J];exact z
       . right;right;rw[List.take_append];exact qf9 _ z
noncomputable def P3(ws:At)[?a1](fam:Int):At:=E3 ws (?sX)
theorem f6{ws:At}[?c5][?c8][?i1](hw:?v):JX fam (?oR):=by
 refine a9 _ _ h (AL 4 [w] [] ?_ ?_)
 . intro v hv;have e:v=w:=?qZ
   subst e;exact⟨hw,by have:=(Kb hw).2;omega⟩
 . intro k v hk;simp at hk
noncomputable def CC(ws:At)(f:?k):Nat:=?kU (·==f)
theorem tM{ws:At}{f:?k}(h:?cG):ws[?dM]?=?c f:=by
 unfold CC;have hl:?kU (·==f)<ws.length:=List.findIdx_lt_length_of_exists ?rD;rw[qa0 hl];have:=List.findIdx_getElem (xs:=ws) (p:=(·==f)) (w:=hl);ext bC
theorem XY{ws:At}{f:?k}{k:Nat}(h:f∈ws.take k):?dM<k:=by
 unfold CC;obtain⟨i,hi⟩:=qg1 h;have hlt:i<(ws.take k).length:=?h6;rw[qn6]at hi;split at hi
 . rename_i hik
   have hl:i<ws.length:=?h6
   have e:ws[i]=f:=by
    rw[qa0 hl]at hi;exact qc6 hi
   have hle:?kU (·==f)<=i:=by
    apply qg2;intro hgt;have:=List.not_of_lt_findIdx hgt;simp[e]at this
   omega
 . cases hi
noncomputable def Na[?i0]:At:=ws.map fun w=>?fP ?kA
theorem DV[?bD]{k:Nat}[?c5](h:?rX):(?iY)[k]?=?c (?fP ?kA):=by
 unfold Na;rw[qa9,h];rfl
theorem g6[?bD][?i1]:Ef (?iY):=by
 intro k p hp;unfold Na at hp;rw[qa9]at hp;cases hw:ws[k]? with
 | none=>rw[hw]at hp;cases hp
 | some w =>
   rw[hw]at hp;have TN:?fP (?kA)=p:=by simpa using hp
   subst TN;obtain⟨h1,h2⟩:=h k w hw;obtain⟨n1,n2⟩:=Kb h1
   have look:∀f∈?N,((?iY).take k)[((?dM:Nat):Int).toNat]?=?c ((?pQ).map fun g=>(CC ws g:Int)):=fun f hf=>by
    have hm:=?g5;have hlt:=XY hm;rw[qe6,qn6,?n hlt];exact DV (tM (qp0 hm))
   refine⟨?_,?_,?_,?_⟩
   . rw[qa4];by_cases hz:?gN
     . rw[?n hz]at n1;omega
     . rw[?j1]at n1;omega
   . intro f hf;obtain⟨g,_,rfl⟩:=?qD;omega
   . intro f hf;obtain⟨g,hg,rfl⟩:=?qD;refine⟨_,look g hg,?_⟩;obtain⟨w1,l1⟩:=N7 h1 hg;obtain⟨m1,_⟩:=Kb w1;unfold lev;rw[qa4,qa4];have hz:¬?gN:=O9m
     rw[?j1]at n1;by_cases hy:lv fam g=0
     . rw[?n hy]at m1;omega
     . rw[?B hy]at m1;omega
   . intro hl i j f g q r hij hf hg hq hr;rw[qa4]at hl;rw[qa9]at hf hg;cases ef:(Aw w fam)[j]? with
     | none=>rw[ef]at hf;cases hf
     | some F =>
       cases eg:(Aw w fam)[i]? with
       | none=>rw[eg]at hg;cases hg
       | some G =>
         rw[ef]at hf;rw[eg]at hg;have ef':((CC ws F:Nat):Int)=f:=by simpa using hf
         have eg':((CC ws G:Nat):Int)=g:=by simpa using hg
         subst ef' eg';rw[look F (qb0 ef)]at hq;rw[look G (qb0 eg)]at hr;cases hq;cases hr;have hz:¬?gN:=by intro z;rw[?n z]at n1;omega
         rw[?j1]at n1;rw[qa9,qa9,faces_agree h1 ?J hij ef eg]
theorem HB[?bD][?c5](hw:?v):(?sX).length<=85:=by
 have step:∀l:At,(∀v∈l,?jY)->(?q2).length<=?qY/\∀v∈?q2,?jY:=fun l hl=>by
  refine⟨by have:=Mz (ws:=ws) l [] hl;ext bC,fun v hv=>?_⟩;rcases ?r4 with z|⟨u,hu,z⟩
  . exact ?lF
  . exact(N7 (hl u hu) z).1
 have s0:∀v∈[w],?jY:=fun v hv=>by
  have e:v=w:=?qZ
  subst e;exact hw
 obtain⟨a1,b1⟩:=step _ s0;obtain⟨a2,b2⟩:=step _ b1;obtain⟨a3,b3⟩:=step _ b2;simp only[Nv,qc3,ql5,qd0]at a1 a2 a3 ⊢;omega
section
variable{xs:At}
universe e9
universe Hb
namespace L2
inductive Es{A0:Type}(p:A0->Prop):Prop
 | mk (x0:A0) (h:p x0):Es p
inductive Ij{A0 A1:Type}(p:?x0 A0 A1):Prop
 | mk (x0:A0) (x1:A1) (h:p x0 x1):Ij p
inductive Qt{A0 A1 A2:Type}(p:A0->?x0 A1 A2):Prop
 | mk [?hU] (h:p x0 x1 x2):Qt p
inductive T7{A0 A1 A2 A3:Type}(p:A0->A1->?x0 A2 A3):Prop
 | mk [?hU] (x3:A3) (h:p x0 x1 x2 x3):T7 p
inductive z8{A0 A1 A2 A3 A4:Type}(p:A0->A1->A2->?x0 A3 A4):Prop
 | mk [?hU] (x3:A3) (x4:A4) (h:p x0 x1 x2 x3 x4):z8 p
inductive zG{A0 A1 A2 A3 A4 A5:Type}(p:A0->A1->A2->A3->?x0 A4 A5):Prop
 | mk [?hU] (x3:A3) (x4:A4) (x5:A5) (h:p x0 x1 x2 x3 x4 x5):zG p
inductive uK{A0 A1 A2 A3 A4 A5 A6:Type}(p:A0->A1->A2->A3->A4->?x0 A5 A6):Prop
 | mk [?b9] (h:p x0 x1 x2 x3 x4 x5 x6):uK p
inductive vZ{A0 A1 A2 A3 A4 A5 A6 A7:Type}(p:A0->A1->A2->A3->A4->A5->?x0 A6 A7):Prop
 | mk [?b9] (x7:A7) (h:p x0 x1 x2 x3 x4 x5 x6 x7):vZ p
inductive Ex9{A0 A1 A2 A3 A4 A5 A6 A7 A8:Type}(p:A0->A1->A2->A3->A4->A5->A6->?x0 A7 A8):Prop
 | mk [?b9] (x7:A7) (x8:A8) (h:p x0 x1 x2 x3 x4 x5 x6 x7 x8):Ex9 p
inductive mP{A0 A1 A2 A3 A4 A5 A6 A7 A8 A9:Type}(p:A0->A1->A2->A3->A4->A5->A6->A7->?x0 A8 A9):Prop
 | mk [?b9] (x7:A7) (x8:A8) (x9:A9) (h:p x0 x1 x2 x3 x4 x5 x6 x7 x8 x9):mP p
inductive iP{A0 A1 A2 A3 A4 A5 A6 A7 A8 A9 kH:Type}(p:A0->A1->A2->A3->A4->A5->A6->A7->A8->?x0 A9 kH):Prop
 | mk [?b9] [?hM] (h:p x0 x1 x2 x3 x4 x5 x6 x7 x8 x9 Rb):iP p
inductive UK{A0 A1 A2 A3 A4 A5 A6 A7 A8 A9 kH wB:Type}(p:A0->A1->A2->A3->A4->A5->A6->A7->A8->A9->?x0 kH wB):Prop
 | mk [?b9] [?hM] (x11:wB) (h:p x0 x1 x2 x3 x4 x5 x6 x7 x8 x9 Rb x11):UK p
inductive ZG{A0 A1 A2 A3 A4 A5 A6 A7 A8 A9 kH wB A12:Type}(p:A0->A1->A2->A3->A4->A5->A6->A7->A8->A9->kH->?x0 wB A12):Prop
 | mk [?b9] [?hM] (x11:wB) (x12:A12) (h:p x0 x1 x2 x3 x4 x5 x6 x7 x8 x9 Rb x11 x12):ZG p
inductive Ap7{A0 A1 A2 A3 A4 A5 A6 A7 A8 A9 kH wB A12 A13 A14 A15 A16 A17 A18:Type}(p:A0->A1->A2->A3->A4->A5->A6->A7->A8->A9->kH->wB->A12->A13->A14->A15->A16->?x0 A17 A18):Prop
 | mk [?b9] [?hM] (x11:wB) (x12:A12) (x13:A13) (x14:A14) (x15:A15) (x16:A16) (x17:A17) (x18:A18) (h:p x0 x1 x2 x3 x4 x5 x6 x7 x8 x9 Rb x11 x12 x13 x14 x15 x16 x17 x18):Ap7 p
inductive E4(p0 p1 p2:Prop):Prop
 | mk [?mG]:E4 p0 p1 p2
inductive B6(p0 p1 p2 p3:Prop):Prop
 | mk [?mG] (h3:p3):B6 p0 p1 p2 p3
inductive Dp(p0 p1 p2 p3 p4:Prop):Prop
 | mk [?mG] (h3:p3) (h4:p4):Dp p0 p1 p2 p3 p4
inductive K8(p0 p1 p2 p3 p4 p5:Prop):Prop
 | mk [?bZ]:K8 p0 p1 p2 p3 p4 p5
inductive M9(p0 p1 p2 p3 p4 p5 p6:Prop):Prop
 | mk [?bZ] (h6:p6):M9 p0 p1 p2 p3 p4 p5 p6
inductive d8(p0 p1 p2 p3 p4 p5 p6 p7:Prop):Prop
 | mk [?bZ] (h6:p6) (h7:p7):d8 p0 p1 p2 p3 p4 p5 p6 p7
inductive fW(p0 p1 p2 p3 p4 p5 p6 p7 p8:Prop):Prop
 | mk [?bZ] (h6:p6) (h7:p7) (h8:p8):fW p0 p1 p2 p3 p4 p5 p6 p7 p8
inductive KG(p0 p1 p2 p3 p4 p5 p6 p7 p8 p9:Prop):Prop
 | mk [?bZ] (h6:p6) (h7:p7) (h8:p8) (h9:p9):KG p0 p1 p2 p3 p4 p5 p6 p7 p8 p9
inductive WA(p0 p1 p2 p3 p4 p5 p6 p7 p8 p9 p10 p11 p12 p13:Prop):Prop
 | mk [?bZ] [?vQ]:WA p0 p1 p2 p3 p4 p5 p6 p7 p8 p9 p10 p11 p12 p13
inductive wA(p0 p1 p2 p3 p4 p5 p6 p7 p8 p9 p10 p11 p12 p13 p14 p15:Prop):Prop
 | mk [?bZ] [?vQ] (h14:p14) (h15:p15):wA p0 p1 p2 p3 p4 p5 p6 p7 p8 p9 p10 p11 p12 p13 p14 p15
universe L2
namespace Hb
open PySem L2
noncomputable def Zz[?d9](k:Int):Int:=ns.getD ?gK 0
noncomputable abbrev LT[?d](H:Hp)(v:V)(xs:At):Prop:=?xP v (?h ?aY)
noncomputable abbrev TI[?d](H:Hp)(v:V)[?d9]:Prop:=?xP v (tI ns)
section
variable[?bE]{H H':Hp}
theorem TI.sq{v:V}[?c3](h:?iI):∃a,?dN/\?rC:=by
 ext hP;rw[Ib.mp r]at q;exact⟨a,e,q⟩
theorem TI.mk{a:Addr}[?c3](h:?rC):TI K H ?bQ ns:=⟨a,_,rfl,h,?mL⟩
theorem TI.same{v:V}[?c3](s:?Y)(h:?iI):?pS:=?pW s h
theorem TI.t{v:V}[?c3](s:?dZ)(h:?iI):?pS:=Rep.t s (OX ns) h
theorem Tw[?a3](k:Nat):Ju xs ?Q (?c (k:Int))=?s3:=by
 unfold Ju;rw[HT.sIx_none,HT.sIx_nat,qw3,List.drop_zero,List.take_eq_take_iff];omega
theorem Pw[?a3](k:Nat):Ju xs (?c (k:Int)) ?Q=xs.drop k:=by
 unfold Ju;rw[HT.sIx_none,HT.sIx_nat];by_cases h:k<=xs.length
 . rw[Nat.min_eq_left h,qi8 (by rw[qi6];omega)]
 . rw[Nat.min_eq_right ?J,List.drop_length,List.drop_of_length_le ?J];simp
theorem KW{D:Addr}{ys:?j}{v:V}{d:L2.D}{ds:?gQ}(hD:H D=?c ?b4)(r:?xT ys ds)(rv:?aZ)(hi:imms (ds++[d])=true):?r K (?x3 D (?h (ys++[v]))) (ys++[v]) (ds++[d]) :=
 (r.snoc rv).t (T4.lst hD) hi
theorem No{D:Addr}{ys:?j}{v:V}{xs:At}[?dA](hD:H D=?c ?b4)(r:?xT ys ?aY)(rv:?y0 x):?r K (?x3 D (?h (ys++[v]))) (ys++[v]) ((xs++[x]).map tI):=by
 have e:(xs++[x]).map tI=?lH++[tI x]:=?I
 have h:=Za (xs++[x]);rw[e]at h ⊢;exact KW hD r rv h
noncomputable def SameX(B:Addr)(H H':Hp):Prop:=∀b o,b≠B->?q9
theorem SameX.refl(B:Addr)(H:Hp):?e3 B H H:=fun _ _ _ h=>h
theorem SameX.trans{B:Addr}{H H1 H2:Hp}[?hX](b:?e3 B H1 H2):?e3 B H H2:=fun c o n h=>b c o n (a c o n h)
theorem SameX.of[?mJ](a:?jT):?qE:=fun c o _ h=>a c o h
theorem SameX.upd[?mJ]{o:HO}[?hX]:?e3 B H (upd H1 B o):=fun c u n h=>by rw[Aj n];exact a c u n h
theorem SameX.t[?mJ]{us:?j}[?hX](h:H B=?kR):T4 H H1 :=
 ⟨fun b xs e=>?sQ,fun b o u e=>?sQ⟩
theorem SameX.same{B:Addr}{H0 H H1:Hp}[?hX](s:?aM H0 H)(h:H0 B=none):?aM H0 H1:=fun b o e=>a b o (Ao e h) (s b o e)
theorem Vf:∀ns:?k,deps ?cC=0
 | []=>rfl
 | n::ns=>by show max (dep (?h3)) (deps ?cC)=0;rw[Vf ns];rfl
theorem Pt:∀xs:At,deps ?aY<=1
 | []=>?gH
 | x::xs=>by
   have h1:=Pt xs;have h2:dep (tI x)=1:=by show deps (Fj x)+1=1;rw[Vf]
   show max (dep (tI x)) (deps ?aY)<=1;omega
theorem Sd(f:?k):∀xs:At,(?lH).any (fun e=>eqD e (tI f))=?p (f∈xs)
 | []=>rfl
 | x::xs=>by
   rw[qe0,ql8,Sd f xs,pL];by_cases h:x=f
   . subst h;simp
   . have h':¬f=x:=fun z=>h z.symm;simp[h,h']
theorem cC[?mE](hc:c)(h:A):?iH:=by rw[?n hc];exact h
theorem Hq[?mE](hc:¬c)(h:B):?iH:=by rw[?B hc];exact h
theorem neI{a b:Int}(h:¬a=b):?uT:=?jM
theorem eqI{a b:Int}(h:a=b):¬?uT:=?jM
theorem isI{a b:Int}(h:a=b):?p (?aK a=?aK b)=true:=?jM
theorem Cp{g:TG}[?eW][?eT][?m1]
 [?v3]
 [?eV]:?wL ?t0 kQ:=?x5 aX
theorem Vj{g:TG}[?eW][?eT][?w3]
 [?v3]
 [?eV]:?wL ?qS kQ:=?x5 pX
theorem Jd{g:TG}[?eW][?vY]
 (hs:?xC ?qP)
 [?wF]:?wL ?q5 kQ:=IF Pv h0 (fun i ys τ H e p=>hs i ys τ H e p) hd
theorem As[?m3][?mA][?vK]:?hA:=h hu
theorem qw7[?m3][?vK][?mA]:?hA:=h hu
theorem El[?m3][?mA](h:(?r0)->?hA):?hA:=h hu
theorem HN{f:?k}:∀{ws:At},?cG->?xB ?c ?dM:=fun {ws} h=>by
 have e:?xB ws.findIdx? ?q7:=by
  rw[List.findIdx?_map]
  congr 1
  funext w
  show eqD (tI w) (tI f)=(w==f)
  rw[pL];by_cases z:w=f
  . subst z;simp
  . simp[z]
 rw[e,List.findIdx?_eq_some_of_exists (xs:=ws) (p:=?q7) ?rD];rfl
theorem small{n:Nat}(h:?nK):n<sizeLine:=qb8 h ?cU
theorem B7{n:Nat}(h:?nK):?mM:=qd8 (small h)
universe e9
section
variable[?d]
noncomputable def gF:Sp:=fun vs H Q _=>Qt fun ?dO ?uY (k:Int)=>Dp (vs=[?M,?f k]) (?g6) (0<=k) (ns.length<=63) (Q (?f (Zz ns k)) H)
noncomputable def dR:Sp:=fun vs H Q _=>Qt fun(v:V) (w:?k) ?uX=>B6 (vs=[v,?lJ]) (?y0 w) (?v) (∀(p:Addr) (us:?j) (H':Hp),?U->?Y->?uA->?r K H' us (?fP tI)->?dD)
noncomputable def gE:Sp:=fun vs H Q _=>Qt fun(c fam letters:Int)=>Dp (vs=[?f c,?lJ,?f letters]) (0<letters) (letters<100) (fam<100) (∀(v:V) (H':Hp) [?a1],?Y->TI K H' v w->?v->Q v H')
noncomputable def f7:Sp:=fun vs H Q _=>zG fun(l:Addr) (us:?j) (v:V) (ws:At) (w:?k) ?uX=>M9 (vs=[?g2,v,?lJ]) (H l=?kR) (?xT us (ws.map tI)) (?y0 w) (?v) (ws.length<=100) (∀(p:Addr) (us':?j) (H':Hp),?U->?Y->H' p=?c (?h us')->?r K H' us' ((?oR).map tI)->?dD)
noncomputable def DQ:Sp:=fun vs H Q _=>T7 fun ?dO ?uY (kind most:Int)=>K8 (vs=[?f kind,?M,?f most]) (?g6) (ns.length<=63) (0<=most) (most<=100) (∀(p:Addr) (us:?j) (H':Hp) (xs:At),?U->?Y->?uA->?r K H' us ?aY->Ef xs->?dW<=most->?dD)
universe e9
noncomputable def Kd(d:L2.D):Bool:=jK ?aF d&&!jK ?d4 d
noncomputable def belowD(d:L2.D)(b:Int):Bool:=match d with
 | ?w=>?sM&&?p (i<b)
 | _=>false
noncomputable def Di(n:Nat):Int:=if (0:Int) > ?e4-1 then 0 else ?e4-1
noncomputable def Dg(xs:At)(d:L2.D)(l:Int):Bool:=match d with
 | ?w=>?sM&&?p (i<?dW)&&?p (Di (?o4).length=l)
 | _=>false
noncomputable def Ty(xs:At)[?f6](j i:Nat):Bool:=?p (?y7 j i=?y7 i (j-1))
noncomputable def Mc(xs:At)[?f6]:Bool:=(?cD p.length).all fun j=>(?cD j).all fun i=>Ty xs p j i
noncomputable def UO:L2.D->Int
 | ?w=>i
 | _=>0
noncomputable def cV(n:Nat):Bool:=n==0 || n==2 || n==3 || n==4
noncomputable def Zl(xs:At)(d:L2.D):Bool:=match d with
 | ?bL=>?u5
 | _=>false
theorem Qf(xs:At)(ds:?gQ):Zl xs (?bL)=(?u5):=rfl
theorem uA{n:Nat}(h:cV n=true):n<=4/\n≠1:=by
 unfold cV at h;simp only[qp8,qv8]at h;omega
section
variable[?d]
noncomputable def Iv:Sp:=fun vs H Q _=>Ij fun ?gY ?gV=>E4 ?mZ ?e0 (?x6 (Kd d))
noncomputable abbrev Rf:Sp:=Iv K
noncomputable def G0:Sp:=fun vs H Q _=>Qt fun ?gY ?gV (b:Int)=>E4 (vs=[x,?e9]) ?e0 (?x6 (belowD d b))
noncomputable def Gu:Sp:=fun vs H Q _=>Ij fun ?gY (ds:?gQ)=>E4 ?mZ (Ao3 K H x ds) (Q (?f (?jV)) H)
noncomputable def Fg:Sp:=fun vs H Q _=>z8 fun ?dO ?gY ?gV (l:Int) ?l2=>B6 (vs=[?M,x,?f l]) (?dY) ?e0 (?x6 (Dg xs d l))
noncomputable def Ov:Sp:=fun vs H Q _=>T7 fun ?dO (v:V) ?l2 (p:?k)=>K8 (vs=[?M,v]) (?dY) (?qJ) (p.length<=4) ((∀f∈p,0<=f/\f<?dW/\(?fT f.toNat []).length+1=p.length)) (?x6 (Mc xs p))
noncomputable def IZ:Sp:=fun vs H Q _=>T7 fun ?dO (th:V) ?gV ?l2=>B6 (vs=[?M,th]) (?dY) (?xP th d) (∀H',?Y->Q (.bl (Zl xs d)) H')
noncomputable abbrev Su:Sp:=gF K
noncomputable abbrev Lm:Sp:=dR K
noncomputable abbrev Ss:Sp:=gE K
noncomputable abbrev Oe:Sp:=f7 K
noncomputable abbrev Qx:Sp:=DQ K
universe e9
section
variable[?bE]{H:Hp}
theorem FY{d:L2.D}(h:Kd d=true):∃i,d=?w:=by
 cases d<;>simp[Kd,jK]at h;exact ?jU
theorem LT.get{a:Addr}{xs:At}{i:Int}(h:?dY)(h0:?cZ)(h1:i<?dW):∃us v,?sD/\iK us i=?z/\?y0 (?o4):=by
 obtain⟨a',us,e,hq,r⟩:=h;cases e;obtain⟨j,rfl⟩:=qs3 h0;have hj:?i6:=O9m
 have e:?aY[j]?=?c (tI xs[j]):=by rw[qa9,?kK];rfl
 obtain⟨v,hv,tv⟩:=?eB e;refine⟨us,v,hq,Bp hv,?_⟩;rw[qe6,qa7,?kK];exact tv
theorem LT.len{a:Addr}{xs:At}(h:?dY):∃us,?sD/\?y8 us.length:=by
 obtain⟨a',us,e,hq,r⟩:=h;cases e;exact⟨us,hq,by have:=r.length;ext bC⟩
theorem TI.get{v:V}{p:?k}{i:Int}(h:?qJ)(h0:?cZ)(h1:i<(p.length:Int)):∃a,?dN/\Dl K H a (p.map ?aK)/\iK (p.map ?aK) i=?c (?f (?kB ?jE 0)):=by
 obtain⟨a,e,hq⟩:=h.sq;refine⟨a,e,hq,?_⟩;obtain⟨j,rfl⟩:=qs3 h0;have hj:j<p.length:=O9m
 refine Bp ?_;rw[qa9,?kK];simp[hj]
theorem bY(n:Nat):Di n=((n-1:Nat):Int):=by unfold Di;split<;>omega
theorem fP{xs:At}{l:Int}:∀{ds:?gQ},ds.all (fun e=>Dg xs e l)=true->ds=Fj (ds.map UO)
 | [],_=>rfl
 | ?bO,h=>by
   simp only[List.all_cons,qc2]at h;cases d with
   | int i =>
     show L2.D.int i::ds=L2.D.int i::Fj (ds.map UO);rw[←fP h.2]
   | _=>simp[Dg]at h
universe e9
universe Hb
namespace L2
open PySem PySem.Spec PyProof.Rows
section
variable[?eU]{xc:Str}[?Z]{C c:Addr}[?f5]
universe e9
section
variable[?eU]{xc:Str}[?vZ]
universe e9
section
variable{fs:?eQ}{H H':Hp}{h B h' h2:Heap}
universe e9
noncomputable abbrev XJ:=?d3->OAddr->?cA
section
variable{X:Cx}{Ac:Bj}{σ:St}{H H':Hp}{s s':Shared}{e:Addr}{cls a0:Value}{dx:OAddr}
universe e9
section
variable[?hN][?wH]{N:?b1}{qual:Str}{scope:Scope}{f:Addr}{cd:Value}{A:Around}{outer:?m Env}{s:Shared}{H:Hp}{E:XK}
universe e9
section
variable{X:Cx}{J:XJ}[?vM]
universe e9
universe L2
namespace L2
open PySem PySem.Spec PyProof.Rows PySem.W
section
variable{X:Cx}{Ac pn:Bj}{σ:St}{H:Hp}{s:Shared}{J:XJ}
universe e9
section
variable{X:Cx}{th:Ends->XJ}
universe e9
section
variable[?m2]{h:Heap}{g:Array GenState}{d:Drawn}{t:Nat}{os:OsState}{a C:Addr}{o:Obj}{K:Frag}
universe e9
section
variable{X:Cx}{K:Frag}
universe e9
universe L2
namespace L2
open PySem PySem.Spec PyProof.Rows
noncomputable def zY[?d](a:Addr):It :=
 ⟨fun i H=>∃xs x,?bU/\?dV,fun i H x H'=>∃p v,?U/\x=?b6/\H'=?x3 p (?q [?w,v])/\∀xs,?bU->xs[i]?=?z,fun i H=>∃xs,?bU/\xs.length<=i⟩
theorem kK[?hN][?wJ](a e it:Addr)(hne:e≠it):Vo P w K (.Tuple es x1 tpos) (?cW) ?iL e (fun i h=>(∃old,IsEnum h e it (i:Int) old)/\h.IsListIter it a i) where
 mem:=?I
 obj:=fun i h st b hb=>by
  obtain⟨⟨old,h1⟩,o,h2,c,d⟩:=st;ext hL
  . exact⟨_,h1,fun v z=>by cases (show Data.fields _=Data.cell v from z)⟩
  . ext mC
    subst z;exact⟨o,h2,fun v z=>by rw[d]at z;cases z⟩
 keep:=fun i h h' st k=>by
  obtain⟨⟨old,h1⟩,h2⟩:=st;exact⟨⟨old,k e ?D _ h1⟩,h2.at fun o z=>k it ?D o z⟩
 item:=by
  ext vE;obtain⟨xs,x,hq,hx⟩:=hg;obtain⟨its,rv,p,hz⟩:=?aR;obtain⟨u,hu,ru⟩:=?gF hx;have fe:=hf e ?D;have fi:=?p2;have lte:e<s.heap.objs.size:=qb2 h1;have hfresh:?k2:=?fJ;refine wpAny_pyNext_enum_item h1 h2 ?F (x:=u) (by simpa using hu) hne fun h' hout LO htup hsz hk=>?_;refine⟨_,rfl,wpAny_letOwnedTupleGo_enum hout fun h3 hen Oh=>?_⟩
  replace Oh:Heap.SameBut e h' h3:=Oh
  have kk:∀b o,b≠e->b≠it->?iX->h3.get? b=?a9:=fun b o n1 n2 z=>(Oh.2 b n1).trans (hk b o n1 n2 z);have TM:h3.get? ?G=?c { cls:=?bY,data:=?L #[?n7,u] }:=(Oh.2 _ (qk0 lte)).trans htup;have hi3:h3.IsListIter it a ?aE:=LO.at fun o z=>(Oh.2 it hne.symm).trans z;have bV:∀b,b ∉ ?iL->?sL:=fun b hb=>?fY
  have j8:∀b v,H b=?z->?sL:=fun b v z=>⟨Ao z fe.1,Ao z fi.1⟩
  have Tb:∀b v,H b=?z->b≠s.heap.objs.size:=fun b v z=>Ao z hfresh;refine⟨?bP,?n0,?_,rfl,⟨?G,x,hfresh,rfl,rfl,fun ys hy=>by rw[?oB hy hq];exact hx⟩,⟨?mQ,hi3⟩,?h2⟩
  . refine Bl.step (s:=s) (h':=h3) (t':=?uS) (H':=?n0) I (g':=s.gens) (d':=s.drawn) (ch:=?iL) (?h2) (fun b o _ _ hb z _=>?j7) (fun b o _ _ hb z _=>⟨o.slots,?j7⟩) (fun b o hb z n=>?_) (fun b o hb z=>⟨o,?j7⟩)
     (fun b ys z=>?nP) (fun b o v z=>?nP) (fun b ps z=>⟨#[],by rw[Aj (Tb b _ z),z];simp⟩) (fun m hm=>?_) (fun b v z=>?_) I.bare
    . ext hL
      . exact⟨fe.2.2.2.1,fe.2.1,fe.2.2.2.2.1,fe.2.2.2.2.2⟩
      . ext mC
        subst z;exact⟨fi.2.2.2.1,fi.2.1,fi.2.2.2.2.1,fi.2.2.2.2.2⟩
    . rw[Aj (qc7 (qb2 z))];exact n
    . obtain⟨o,es',ep,ho,r⟩:=hm;exact⟨o,es',ep,kk _ o fe.2.1.symm fi.2.1.symm ho,r⟩
    . by_cases hb:b=s.heap.objs.size
      . subst hb;rw[Ab]at z;cases z;exact⟨(by show(2:Nat)<=sizeLine;decide),[?n7,u],?V ?jU (?V ru ?R),⟨_,TM,rfl,rfl,_,rfl⟩⟩
      . rw[Aj hb]at z;refine(?g7 b v z).stay (fun c y hc' q=>?_) (fun c q=>?u9) fun c ys q=>?u9
        rcases hc' with rfl | hc'
        . exact kk _ _ (?qT).1 (?qT).2 q
        . exact kk _ _ (?t8).1 (?t8).2 q
  . have lb:?n5:=by
     ext hL
     . exact lte
     . ext mC
       subst z;obtain⟨o,z,_⟩:=h2;exact qb2 z
    rw[Aj (qc7 lb)];exact(?fS).1
 done:=by
  ext vE;obtain⟨xs,hq,hx⟩:=hg;obtain⟨its,rv,p,hz⟩:=?aR;obtain⟨f0,f1,f2,f3,f4,f5⟩:=?p2;have hl:=rv.length;exact wpAny_pyNext_enum_end (?tS) h1 h2 ?F (by simp;omega) fun h' eb=>⟨rfl,I.turned (t':=s.toks) (fun b o hb z=>eb b o hb z) f0 f1 f3 f4 f5⟩
 self:=fun _ _ _ _ _ st h=>by
  obtain⟨⟨old,h1⟩,h2⟩:=st;exact qt0 h1 h
inductive qN[?d](R:It->?aG)(vs:?j)(H1:Hp):Prop
 | mk:∀a,(vs=[?M])->((∃xs,SqL K H1 a xs))->(R (?cW) H1)->?r2
noncomputable def Aj5[?d](ta:TA):TI:=fun σ H R=>ta σ H fun vs H1=>?r2
theorem W3:?W ?eS=?c (?X ?eS):=?a4
theorem S6{X:Cx}[?bE][?wJ]{a:Expr}{ta:TA}{p pos:Pos}(hg:Gl X ?eS)(hm:X.mg ?eS=none)(ha:PA X [a] ta)[?t](hs:?l8 [a] ?l=[(?d0,eval a ?l)]:=by rfl):PI X (.Tuple es x1 tpos) (.Call (?h5 ?eS p) [a] [] pos) (Aj5 K ta):=by
 subst hK;intro Ac s σ H R I h;refine Call_ (L1 I hg hm W3 (qg5 (Df (ha pos Ac s σ H _ I h) fun us s1 _z=>?_) hs rfl));obtain⟨vs,H1,I1,r1,q1⟩:=_z;obtain⟨l,e,⟨xs,hq⟩,q⟩:=q1;subst e;cases r1 with
 | cons r rr =>
   cases rr;cases r;obtain⟨its,rv,pl,hz⟩:=I1.list hq;refine call_enumerate_list ?cV fun h' hen hit hsz hk=>?_;refine qt0 hen ⟨?q1,[?q1,s1.heap.objs.size],_,_,H1,rfl,I1.kept (t':=s1.toks) hk,kK l _ _ (qs6 _),⟨?mQ,hit⟩,?h2,q⟩
   have lb:s1.heap.objs.size<=b:=by
    ext hL
    . exact qm8 _
    . have z:b=s1.heap.objs.size:=?fY
      rw[z];exact ?bT
   exact I1.fpOk lb (?oP lb)
section
variable{g:TG}{tc:TT}[?eW]
theorem AX[?eT][?m1]
 (hs:∀i x ys τ H p,?dV->?aQ->?U->g ?a5 τ (?x3 p (?q [?w,x])) ?lA)
 [?eV]:?wL (?cW) tc:=by
 ext lU;rintro i m ys τ H ⟨rfl,hi,pp⟩;have q:=hl i ys τ H hi pp;by_cases hlt:?fD
 . ext lT;obtain⟨p,v,hp,rfl,rfl,y⟩:=y;exact hs i v ys τ _ p (y xs q) pp hp
 . ext hS
   subst e;exact ?i ⟨?iZ,hd ys τ H pp⟩
theorem Zk[?bE]{a:Addr}[?c6]{g:TG}{tb:TS}{D:Ends}{σ:St}{H:Hp}(Pv:?rU)(h0:Pv 0 σ H)(hl:∀i σ H,?eI->?j4->?bU)
 (hs:∀i x σ H p,?dV->?j4->?U->g ?a5 σ (?x3 p (?q [?w,x])) fun σ2 H2=>tb { D with nx:=?eC,ct:=?eC,bk:=D.nx } σ2 H2) (hd:∀σ H,Pv ?a6 σ H->?q4) :
 ∃W:Nat->?rU,(∃m,W 0 m σ H)/\∀i m σ H,W i m σ H →
   ((?cW).stop i H/\?q4)\/((?cW).go i H/\∃N:?cA,(∀σ' H',?v1->∃m',m'<m/\W ?aE m' σ' H')/\∀x H',(?cW).yld i H x H'->g x σ H' fun σ2 H2=>tb { D with nx:=N,ct:=N,bk:=D.nx } σ2 H2):=by
 refine⟨fun i m σ H=>m=xs.length-i/\?eI/\?j4,?uR,?_⟩;rintro i m σ H ⟨rfl,hi,pp⟩;have q:=hl i σ H hi pp;by_cases hlt:?fD
 . refine ?e ⟨?sV,?eC,fun σ' H' p'=>?r3,?i4⟩;obtain⟨p,v,hp,rfl,rfl,y⟩:=y;exact hs i v σ _ p (y xs q) pp hp
 . ext hS
   subst e;exact ?i ⟨?iZ,hd σ H pp⟩
end
mutual
#check(4,[?a,?b,some,wpAny,.int,.ref,(by omega),List,X.env,if_neg,Nat->Int,s.heap.objs.size,?c o,∀(I:?vJ),a,(?R),.nil,if_pos,(model prog w),s.heap,decide,?f a,(-1),.none,IsPair,.type,.tup,.lst,kv.1,(i+1),∀{P:Program}{w:World},a,V.int,?f b,RelV,lookI,p.1=k,.Call,I.hok,.inl,.cons,eval,∀(ms:?aH),a,∀{kvs:?X},a,?h Expr,.(by simp),H p=none,?h V,∀{A:Around}{E:?tZ},a,.(by simpa using hb),∀(K:W.Frag),a,?h (?gT),apos,(?jL),.Attribute,(?eC),false,(?h7),∀{Q:?tZ},a,∀{ms:?aH},a,.(by intro z;cases z),IsZip,?f ?l,(?u),.(by intro X hP hw hK hc i Ac s σ H E I hf st hg;subst hP hw hK),∀{X:Cx}{Ac:Bj}{σ:St}{H:Hp}{s:Shared}{a:Addr},a,∀{f:?bJ},a,∀{K:W.Frag},a,∀{s:Shared},a,(?jR),(?d1),?h (?fM),w1.extBut,?c v,qa8 _,s.heap.IsTuple,kV k,kvs.map,Value.ref,∀{f:?k},a,.inr,[it],(model ?cN X.w),Pv i zs τ H,Am f n,"zip",Pv i σ H,(e::es),(k,v),Ol kvs k,fun c hc=>?_,Oh.2,value,starEach,.seq,∀{prog:Program}{w:World},a,∀(n:Nat)(f:?k),a,.(by exact qe8 _ _),.(by simpa using e),.fields,ObjOk,rel.val k,call,ZD d o,T k k,Ho n f,w3.extBut,(n+1),?H ms k,Nat->?k,qc0 _ rfl,(f i),ns.map,(a==sysModules)=false,?c x,cpos,Value.isInt,fun p=>?sV,?h Int,(?e4-1),Pv ?C,IntMulOk,(?jP),.Name,?h Key,dd.typeIs,?h Addr,Hp->Prop,.(by ext c6),∀{kvs:?cR}{vs:?AJ κ Value}(r:?cX),a,.(by by_cases e:j=k),∀(ry:?G y u),a,.(by simpa using q),(?gD ry),qa3 ?_,.(by ext dD),Array ?hV,St->?c1,(t k),.dK [],kk c o hc e,Sum.inl k,ms.map,xs[i]?=?bO,Option,?aU+f n,.(by ext V),ZX d o,(?vO),X.prog,[z,TI,TO,i1,i2],To ?K e,D.nx σ H,?AJ κ V,Same,(?f z),I.bare,(?f D),X.mg,KV kvs vs,kvs[i]?=?kI,{ s with heap:=h' },.builtin,?f p,ys[i]?=?c y,fun b hb=>?_,"dict",Shared->Prop,Rows,call_meetsIn,?c p.2,∀(e:?gY),a,.(by by_cases e:?I),.(by exact True.intro),∀(ok:?wB),a,.(by decide +kernel),(?jU),R.free,(t j),h'.IsTupleIter,?BM p (?z [x,y]),R j ?dG,?uZ ?a1,.(by ext b8),qb2 e,(?e3),qa2.mp,[?u],?cI ?hV,?c _,?AJ ?bY V,(?iR).get?,?B=k,x k*?l9,Rd H a ?a3,(j+1),h'.get?,"range",s.heap.get?,Str->?dQ,.(by simpa using e1),qb4 ?_,(n:Int),?f t,(?f it),[a,b],hfresh,Oj es ms,fun _=>0,H d=?eT,qa1 _,h.inc,(upd H' a ?a3),(cK ms),?N e ?i,.frz o ?a3,w2.extBut,?y ?aV,H' a=?eT,Am _ n,(?h9),?y "tuple",?AJ TE TE,?q e,?cS H H',R.row j a e,Ic [] kvs,?c (?eH),?AP kvs.length,?c u,∀(kvs:?cR)(k:κ),a,∀(R:?AW H1 as),a,∀{es:?h ?hS},a,.(by simp[Value.isInt]),∀{y:V}{u:Value},a,∀{o:?cI V},a,fun x H' y=>?_,g x σ H' fun σ2 H2=>tb { D with nx:=N,ct:=N,bk:=D.nx } σ2 H2,(?a2,?N b ?i),(∀c o,c≠z->c≠b->c≠i1->c≠i2->?s0),Am g n,(?pD),Dl K H a xs,.ellipsis,(by ext a6),?BM a (?eH),.ad i j n,(i:Nat),I.laid,(?dL),?h ?hV,h1.symm.trans e,Heap.SameBut,H b=?eV,W i m σ H,T' k k,Int × Int,{ s with heap:=h',toks:=tk },hf b hb,?e0 b=?m,(by rw[e];ext dB),h3.get?,(?cK),w5.extBut,field,?j e,Sum.inl p.1,ZC K a b,(I.tok _),s.heap.push ?pB,?T->Hp->VK->Prop,fun σ2 H2=>tb { D with nx:=?bU,ct:=?bU,bk:=D.nx } σ2 H2,(∃m,W 0 m σ H),w4.extBut,(?BI es),(dT h w f),V.ref,Ne.symm,?f l,H D=none,(hr.mono hk),i<=kvs.length,Dl K H b ys,kV_is,backTo,(?f i1),.bool,its.toArray,(f:?bJ),∀x∈ns,x.natAbs<2 ^ Px,Wb kvs k,?h Str,(fun m hm=>?_),(?q1),slice,(?o8),?y ?jG,hf c hc,?gG true,Key × V,(kvs.any ?kH),(?f i2),hx c hc,(w<=1000),H a=?c ?a3,(h<=1000),?AQ a xs,Itd hi n,2 ^ 61,intKind prog w,2 ^ m,Nat->?kM,?AQ b ys,.dK kvs,ts[i]?=?c t,VI n f,?lQ vs k,?A1 1,?h (?oI),M6 ?s a ms,prs.drop,n<=1000,?BM ?l (?z [x,y]),(by kernel_rfl),up c _ q ?fA,.(by ext iG),(?fX),?e n,[e,f],(∀σ' H',N σ' H'->∃m',m'<m/\W ?C m' σ' H'),(v:V),.bl true,.(by ext iF),?e i,DictEntry,?c ob,?N o ?i,Value,sumN_one,(?y ?d4),s1.heap.push,∀(D:?qS z a b i1 i2 t1 t2)(gz:?AH ?s ?w)(ga:?x ?s a ?gF ?gV)(gb:?x ?s b u v),a,∀(g1:?l7 i1 t1 n) (g2:?l7 i2 t2 m) (e1:?aL t1 xs) (e2:?aL t2 ys),a,.(by obtain⟨ho,hsys,hl,vs,es',QS,rel,hd',hsz,ex,hm⟩:=Vc I hz;rw[hd]at hd';cases hd'),.(by simp only[qb9,qe9,or_false]at hc;rcases hc with rfl | rfl | rfl | rfl | rfl),.(by simp only[qb9,qe9,or_false,not_or]at hc;obtain⟨n1,n2,n3,n4,n5⟩:=hc),∀{kvs:?dS}{xs:?l2}(r:?rA),a,.(by exact⟨f.2.2.2.1,f.2.1,f.2.2.2.2.1,f.2.2.2.2.2⟩),.(by have hn:es.size=vs.length:=by rw[hsz,rel.length]),∀{z a b i1 i2 t1 t2:Addr}{n m:Nat}{xs ys:?cA},a,.(by cases (show Data.seq _ _=Data.cell v from q)),.(by obtain⟨hz,hTI,⟨u0,v0,hTO⟩,h1,h2⟩:=st),.(by obtain⟨z,hd,vs,rel,dd⟩:=fC ?K e),∀{w r:Nat}{R:Mat}{t:?oJ}(h:Db w r R t),a,∀{te:TE}{D:Addr}{Q:?c1}{τ:St}{H:Hp},a,.(by exact(show False from r).elim),.(by rcases hc' with rfl | hc'),.(by rw[Aj (Tb c _ e)];exact e),.(by rw[←rel.length];exact z),∀{vs:?hC},a,.(by intro Ac s σ H Q I h),∀{D:Addr}{as:?c0},a,∀(h:Heap)(a b:Addr),a,∀(f:?bJ),a,∀{X:Cx}{pos:Pos},a,?A1 3,Kp H H1,tPairs,?b3 ?aX ?i,WB ?s a b,FA ?K e,values,s₁.heap,(?gE pos (?jT)).any,Bl.step,(f,first),In w n R v,?jW ?a9 ?d4,?A1 2,?q ?Z,?B8 T',It->?c1,⟨rfl,?_⟩,o.data=.dict es ep,pb.isList,((0:Nat):Int),List.range',M5.some_of,H b=?c (?z (k.map kV)),{ cls:=?y "dict_items",data:=?b9 #[?f d] },kk b ob hb z,Array ?hS,?j ?g,H c=?m,"list",I1.kept,?j ?Z,Q (?hP) H',stored,.(by decide),h.zero,"StopIteration",CA ?K eb,mixKind P w,[a,b,c],mixKind ?cN X.w,fun _ _ e=>e,?b3 es ?i,.(by simp;omega),?h (?cI Expr),s.TypeIs,R i ?cC,M7 n w k T,Ic kvs more,kvs.length,rawInt,hk c o n1 n3 n4 n5 e,ms.length==ns.length,Nn kvs k v,?G (?aM) u,wpAny_callSpecial?_slot,M8 K fd ps []/\By P w K mg base Ej k f fd ps sp,ia.toArray,i=kvs.length,(?jP).is,Addr->Prop,s.free,Db w r T' t,fun c xs q=>?hI,?e0 c=?m,.Subscript,fun kv=>?t (?dU),?c ?aY,"keys",(?a2,?eG),tupleKind,Nat->?cB,?H ns j,?gG ?a2,Str.ofString "__next__",as.length=h,?AQ a ?eM,(zt4 ?s a b).objs.size,⟨h1,h2⟩,getItem,"__eq__",#[key,p.2],(?f j),pa.isList,"dict.update.loop",Rd H a (.dT kvs),fun z=>e ?m1,?h (?bY × Addr × Value),fs.findIdx?,up b _ q ?fA,k5.objs.size,?H ns k,s.heap.IsTupleIter,(h w:Nat),R k ?cC,us.length=h,?BM p (?z [?aM,v]),holding [ov] (getMethod ov m pl),standAt apos.atName,A.handled=none,?A1 4,?e (hi-i),X.base,ib.toArray,fun z=>?_,⟨y,H2,I2,ry,q2⟩,(K w.params).In,Nat.log2_lt,fun i=>?t4,backToKw,?zR H s',valueAt,?e 0 0,Builtin.SmallTypes.nextOf,as.map ?g6,I2.thaw e2 hb,Builtin.Int.intBits,fun h' HW hs=>h _ ?_,d.name,k b o hc e,?q rfl,(?eR).2.2,z.symm,?BJ 4,.(by simp at e),I.turnedN,.(by simp<;>omega),fun j hj=>?_,attributeBase,fun _ _ x=>x,⟨_,?bK,rfl,rfl⟩,[?u,?F],.(by simp[hlt]),.(by have he:?oP:=?sO),.(by obtain⟨σ',H',I2,e2,q⟩:=hq;exact⟨σ',_,?lU,q⟩),.(by cases (show Data.fields _=Data.cell v from q)),.(by have e':¬q.1=k:=?wI),.(by obtain⟨z,hd,vs,rel,dd⟩:=?cP),∀(mg:?e1)(base:Heap)(C:Addr),a,∀(hu:X.A.units+1<cLine)(ho:?x1),a,.(by obtain⟨f,fd,h1,h2,h3⟩:=h.ex),∀(R:?j3)(vs:?T)(H1:Hp),a,.(by have z:b=it:=?cK),∀(hd:?BE n),a,∀{Q:?dQ->?d5},a,.(by exact ?AC kk hc'),.(by rw[(hf c hm).1]at e;cases e),∀(ps:?gL)(k:Nat)(sp:Sp),a,.(by obtain⟨ok,ov,hit⟩:=st),∀(xs:?T)(H:Hp)(Q:VK),a,∀(ns:?aH),a,∀{Q:Unit->?d5},a,∀(P:Program)(w:World),a,∀(e:?dW),a,∀(hk:j<=k:=by decide),a,∀(hu:A.units+1<cLine),a,∀(hi:?sI),a,∀(hn:?lE),a,∀(ry:?k5),a,(?hY ?jB).objs.size,c ∉ ?cO,.(fun kvs' q=>by rw[hz]at q;cases q;exact hx),la<s1.heap.objs.size,hx k ?g,ms.length-i1,Builtin.Dict.addrOf,fun y H4=>H4 D=?AS zs/\zs.length<sizeLine/\Pv ?C ?v8 τ2 (upd H4 D (?A ?v8)),I1.tuple,{ s with heap:=?fZ },(?zZ t).objs.size,(keyPart u).isSome=true,fun j a e=>?_,PE X e td,.(fun v q=>by ext mE),⟨xs,ys,xs[i],ys[i],qa,qb,?m5,?m5⟩,hk1 _ _ ho1,?hW hr ?qW,PE X o ta,callWith,h.objs.size,⟨q,hq⟩,?t (q.1≠k)=true,(?wW).isSome,?zM ?r (pyNext ?cT),fun h' hz' YI dJ h2' htup hsz hk=>?_,?B7 c,PySem.F.args_dict_pop_3 _ _ _,wpAny_updateSeq_pair,In w r R v,Heap.DictOf.new,⟨hz,hTI,⟨_,_,hTO⟩,hi1,hi2⟩,(Hs ms k),wpAny_letGo,.(by rw[Aj (Tb b _ z)];exact z),(?wU,?E p.2),b≠s.heap.objs.size,ItDGet2 ty tx σ Q x H1,?cS H1 H2,IsRangeIter,(apos.endLine==cpos.line)=true,KD R x H1,?k3&&?A2 ns,QK K R vs H1,VX K R vs H1,fun h' hz hTI hTO hi1 hi2 hsz hk=>?_,h3.IsListIter,h1.DictOf,?dH i2 t2 (m+1),?a7 h z TI TO ?w,PE X e ty,Pv 0 σ H,Key × Value,Nat->Nat,l.row.toRowW,List.range,Sem Bool,(?k4).length,hk1 _ _ hoD,∃q,?dY a=?c q,.(show n+1+j=n+?dX by omega),?x h' ?l x y,I.nodupK,⟨t,rfl⟩,(zt1 ?s a).objs.size,?kG o i pos',?eU/\?bN/\∃vs,?cX/\h.DictOf ?bW a vs,fun j hj=>O9m,fun h' hk=>⟨rfl,?AB ?cO (fun c o hc e=>?_)⟩,?H ms j,I.list_inj,IsItemIter,fun i H=>∃kvs k v,?eB/\?cY,∀kvs,?eB->?cY,(a:Addr),?AS q,KT × Value,?h0/\?h6,.(fun b u q n z=>by rw[z,e]at q;exact n (qc6 q).symm),if j=i then 1 else 0,hst.lead hx k kr v0,{ cls:=?y ?d4,data:=.dict #[] },?bT+?j7*?v,?BH v ?g5,?B1 (Tb c' _ q),fun hr=>?_,(?d0 ?uO),?kA k u=true,bs.map ?g6,I1.hok.fresh,e.hash=hashInt k,∃xs,?rA/\h.DictOfH (?kL ?bW) a xs,l.most=?c n,IsD H1 a,hl i σ H hi pp,vs.any ?kH,(?oL n).map,?gE ?bP (?b3 ?hM ?i),?s6 (?e x),wpAny_Call_method,Paired.snoc,I.tuple_inj,?AJ V V->?c1,Nat->?T->?cB,⟨?mA,[]⟩,∃t,u=Value.str x t,(?f fa),Nn kvs p.1 p.2,Obj.data_mapFields,hf it ?o,(?f ?l5),c1.2.2.2.1,fun _ _ _=>False,?A3 (?iQ),?G v w'->Q w' s',k5.IsTupleIter,fun b o e=>?AE e,(?bM ?E),swapsWith,Lz kvs [],h.IsTupleIter,{ s with heap:=h',toks:=t' },s₁.heap.get?,s1.heap.IsTuple,ms.length-i,(?kL ?bW).is,.(by ext yX),(?a2,?N c ?i),i<kvs.length,Ho ?bH f,?BO ?jH hk,⟨rfl,rfl⟩,M6 ?s b ns,⟨o,ho,r⟩,ZipApart,atKey (q::qs) k,dd.mapOf,?AE (?v6),fun k hk hne=>?_,"dict_itemiterator",?AH h' (?k1 ?l),.(by simp[hl]),(∃o,?dY e=?m/\o.cls=?y ?jN)->E (?f e) ?cZ,(qk0 lz),(?eR).2.1,Builtin.Range.rangeSize,?BJ 1,(qb4 ?dN),qc7 (?dM),hl i zs τ H hi pp,Th H Z a,[?u,u,r],KT H kvs xs,?zR (?BM a (.dK (?gK))) s',(?a2,?N a ?i),∀c o,?n3->?kF->?fR c=?m,(dL n f),(?k1 ?l5),Shared.heap,mg ?lX=?c ?q0,?u::u::more,?cH/\?d2,?AC kk e,H a=none,.(by simpa using q1),.(fun v q=>by ext i8),qk9 ?_ (by size_fits),fun τ2 H2=>tc τ2 H2 fun b H3=>if b=true then te τ2 H3 ?n9 else Pv ?C zs τ2 H3,zt2 h a b,?cS H H1,(?h9).length,?BO ?jH ?t7,lb<s1.heap.objs.size,?aZ=none,fun h' eb=>⟨rfl,?AB ?aR (fun b ob hb z=>eb b ob ?fS z)⟩,Heap->Prop,k3 c hcw,pos.line,?kF->?dY c=?m,(vs=?mA),call_meets,c3 r t HF hst hz,(Th H Z),PySem.F.slot_dict_items,WData.weight,typeLookup,Paired.length,?K b _ e,?aL a xs,h'.DictOf,r.repl k ry,key r t HF hst hz,?dH i1 t1 ?bH,H ?l=none,?h (?p6),hd σ H pp,i.natAbs<?h4,fun kv=>(kV ?B,kv.2),?zR H' s',fun k hk=>h k ?g,upd H a ?a3 b,.(by simp[valueAt,qn7,e']),let ⟨q,_,_,hq,_⟩:=HW;?nN,Ol (p::r) k,FT xs H Q,⟨x,H1,I1,rx,q1⟩,Array.getElem?_eq_getElem,I.turned,(?aZ).isSome,?t (?I),fun i H=>∃kvs,?eB/\kvs.length<=i,entryFor,.(by simp at hl),w8.extBut,dJ.at fun o e=>(?b1 i1 D.i1z).trans e,DGet H a y o,(?eS).length<=sizeLine,mainGlobals,dL w ?bL,?M ?_ ih,⟨n-?C,O9m,rfl,hlt,p'⟩,fun b ob z=>?AE z,e.val=?e v t',s1.heap.objs.size<=c,e.key=?e k t,h2'.at fun o e=>(?b1 i2 D.i2z).trans e,(?e y u),wpAny_setField,(?wW).map,?t (p.1≠k)=true,subscripted,kvs++more,h w' _ ?fY rw',fun b u q=>?_,?K a _ e,PE X i ty,prs[i]?=?c p,binaryOp,Gc k X.A,QN R vs H1,PySem.F.entry_dict_pop,⟨hz3,yJ,⟨_,_,yI⟩,hi1,hi2⟩,QM R x H1,wpAny_typeOf,[?m2,?BJ 2,?BJ 3,s1.heap.objs.size,?r4],Ho n ?eA,?AQ a us,?lQ (q::qs) k,⟨kvs,q,?eC⟩,?hV->?d5,kvs.length<sizeLine,⟨kvs.length-?C,O9m,rfl,hlt,p'⟩,a*u c+b*v c,⟨_,rfl,h⟩,qG Q x y H2,d.params.defaults=[],?a0 o f pos',?AN r,D.i1z.symm,∀k,k<j->v ?cC=0,fun p hp=>?_,?BM ?l (?z [?aM,v]),hp j O9m,?e0 b=?hT,?aL b ys,List.replicate,g.typeIs,fun c o e hm=>?uR,qH D σ v x y H3,Heap.IsTuple,⟨_,TM,rfl,rfl,_,rfl⟩,F.entry_zip_next,zt3 h a b,hst.zero,"dict.pop",.(by simp[atKey,qn7,e']),wpAny_attempt,.(by ext mP),h3.IsTupleIter,Df (?BK he) fun v s1 _z=>?_,fun b u q n=>?B1 (ne b u q n),w7.extBut,xs.length<=i,PA X ?aX t,?fI z h' h3,I.hok.fresh,hd zs τ H pp,PE X ?b2 tv,{ s1 with heap:=?hY ?jB },h _ _ ?fY ?_,?h Keyword,kvs++[p],?AE (?bK),?cS ?s4 (Th H' Z),(zs++[y]),D.TOi1.symm,D.TOz.symm,(?aO t==Value.none)=true,?q (?fH),fU x vs H Q,?fP->?dY b=?m,(zt2 ?s a b).objs.size,PE X f tx,⟨_,rfl,?_⟩,?A1 5,?zR H s,Q ?cV H',Value.int,Pv 0 [] τ H,hnew.typeIs,I.ok.hd hc,items[i]?,(qg2 ?lJ),qj3 O9m O9m,DecidableEq,ts.length=kvs.length,fun z=>q ?m1,Rd H a (.dK ?eF),Bool->?d5,ms.findIdx?,.(by simp[e]),PySem.F.slot_dict_delitem,?x h' b x y,{ s with heap:=h1 },(?e x t),⟨xs,ys,qa,qb,O9m⟩,?vX (?bR),fun b hb=>(?fO).1,⟨kvs,kvs[i].1,kvs[i].2,q,?mB⟩,ns.length<=n,?zM ?r (?lS ?kX),?AE (?qV),fun _ _ _ _ _ st h=>qu1 st.1 h,Q7 P w H h,ha.typeIs,I1.fpOk lc (?pJ lc),List.getElem?_range,?B1 (Tb c _ q),D.TOi2.symm,∀ob u,X.H₀ a≠?c (.frz ob u),fun z=>e (h1.trans z),?c (?F),(x,y)::ps,⟨n,?R,?aK,h0⟩,I.base.frzs,KC xs H Q,.(by simp[Ol,qn7,e]),h'.objs.size=?hB,∃t,u=?vL i t,fun j c hj=>O9m,?AQ b (VI w ?bL),⟨?k0,?R,?aK,h0⟩,(?fW:Key),hb.typeIs,atKey xs k,xs[n]?=none,(zt3 ?s a b).objs.size,?x h TI ?gF ?gV,Aj (?r6),PE X o td,Am (fun i=>f i j) n,Builtin.Dict.samePairs,H a≠none,?AH k1 ?f9,.(fun v q=>by rw[d1]at q;cases q),kC xs H Q,Oj es.toList ms,?A4 c,{ cls:=?y "tuple_iterator",data:=?b9 #[?u,?lR] },items[i],ob.slots,fun i hi=>?_,PySem.F.entry_dict_get,h.IsListIter,.(by obtain⟨o,q1,q2,q3⟩:=id g;obtain⟨p,p1,_,m,p2⟩:=gt;unfold Builtin.SmallTypes.nextOf;refine qa3 (?k6 (name:=?kP) ?uG qn2 (qk1 qn2 ?uG F.entry_tuple_iterator_next ?_ (F.args_tuple_iterator_next_1 _)));show ?zL (?fU ?kX 0>>=_) s;refine qa3 (qg9 q1 q3 (x:=?e5) rfl ?_);show ?zL (if ?vB then _ else _) s;rw[?j (show ¬(?vB) from qd3)];show ?zL (?fU ?kX 1>>=_) s;refine qa3 (qg9 q1 q3 (x:=?e n 0) rfl ?_);show ?zL (seqItems? (?e5)>>=_) s;refine qa3 (ql7 p1 p2 ?_)),.(by refine ?zS ?kO ?_;show ?zL (?fU ?cT 3>>=_) _;refine ?zS ?u ?_;refine ?AI ga;show ?zL (Builtin.SmallTypes.ownedTupleIsFree ?cT>>=_) _;refine ?c8;unfold Builtin.SmallTypes.ownedTupleIsFree;refine ?zS ?w ?dN;simp only[if_true];refine ?AF qv7 ?_;refine ?zS ?F ?_;refine qa3 (qh7 gz ?o fun k1 YL w1=>?_)),.(by have yJ:?x h3 TI ?gF ?gV:=(?b1 TI D.TIz).trans (hk _ _ D.TIz D.TITO D.TIi1 D.TIi2 hTI);have yI:?x h3 TO u v:=(?b1 TO D.TOz).trans YI;have j8:∀c o,?jF->?n3:=?uH),.(by refine ?AT ?nH ?t6;obtain⟨p,u,v,hp,rfl,rfl,y1,y2⟩:=y;exact hs i u v zs τ _ p (y1 xs qa) (y2 ys qb) pp hp),∀(hs:∀i x y zs τ H p,?cH->?d2->?aT->?S->g ?aG τ (?dI) ?rP),a,∀{X:Cx}{K:W.Frag}{es:?Q}{x1:Nat}{tpos:Pos}{a b:Expr}{ta:TA}{p pos:Pos}(hg:Gl X ?aV)(hm:?cW ?aV=none)(ha:PA X ?e7 ta)(hK:X.K=K:=by rfl)(hs:?b3 ?e7 ?i=[?rC,?f4]:=by rfl)(hs2:?b3 [b] ?i=[?f4]:=by rfl),a,.(by obtain⟨hz,hTI,⟨u,v,hTO⟩,h1,h2⟩:=st;exact⟨k z ?o _ hz,k TI ?o _ hTI,⟨u,v,k TO ?o _ hTO⟩,h1.at fun o q=>k i1 ?o o q,h2.at fun o q=>k i2 ?o o q⟩),.(by refine ?c8;simp only[List.zipIdx_cons,List.zipIdx_nil,List.forIn_cons,List.forIn_nil];refine ?AF qa3 (wpAny_onRaise ?_);show ?zL (?lS ?gF>>=_) _),.(by refine⟨fun i m σ H=>m=kvs.length-i/\?gB/\?aW,?wT,?_⟩;rintro i m σ H ⟨rfl,hi,pp⟩;have q:=?pO;by_cases hlt:?qM),.(by intro i s acc hn hi hz hd hit hb k;refine codeAny_builtin Wa ?_;rw[Around.under_plainId Lc];have hLs:s.heap.IsList l items:=let ?qR:=hL;⟨o,hb _ _ nld nli ho,r⟩),.(by refine⟨fun i m zs τ H=>m=n-i/\i<=n/\?aT,?wL,?_⟩;rintro i m zs τ H ⟨rfl,hi,pp⟩;obtain⟨qa,qb⟩:=?r7;by_cases hlt:i<n),∀{K:W.Frag}{a b:Addr}{xs ys:?T}{n:Nat}(hn:n=min xs.length ys.length)(Pv:?pX)(h0:?vM)(hl:∀i zs τ H,i<=n->?aT->?p7),a,.(by rw[Aj hcs]at e;refine(?K c w' e).stay (fun c' y' hc' q=>?_) (fun c' q=>?pE) fun c' zs q=>?pE),.(by obtain⟨x,H1,I1,r1,d,o,kvs,ex,hz,q⟩:=_z;subst ex;obtain rfl:v=?aO d:=r1;obtain⟨ho,hsys,hl,vs,es,ep,rel,hd,hsz,exd,hm⟩:=Vc I1 hz),.(by refine ?B4 ?w6 ?u1),.(by obtain⟨x,H1,I1,rx,a,ex,d,q1⟩:=_z;subst ex;obtain rfl:u=?aO a:=rx;obtain⟨t1,t2,_⟩:=oX I1 d;refine⟨t1,t2,?_⟩;rw[m.trees]),.(by obtain⟨u,hu,ru⟩:=ra.get hx;obtain⟨v,hv,rv⟩:=rb.get hy;have hfresh:?sF:=?dK;have ltz:=qb2 hz),.(by subst hcs;rw[Ab]at e;cases e;exact⟨(?B6 2),[u,v],?M ru (?M rv ?p),?uK⟩),.(by exact(?K b u q).stay (fun _ _ _ q=>q) (fun c q=>?hI) ?kE),.(by simp only[qb9,qe9,or_false]at hc;obtain⟨o1,q1,_⟩:=h1;obtain⟨o2,q2,_⟩:=h2;rcases hc with rfl | rfl | rfl | rfl | rfl),∀{g:TG}{tb:TS}{D:Ends}{σ:St}{H:Hp}(Pv:?kM)(h0:?oH)(hl:∀i σ H,?gB->?aW->?eB),a,.(by have TM:?AV u v:=(?b1 _ (qk0 ltz)).trans htup),.(by refine⟨?bZ,fun b q=>?_,hd⟩;cases q;obtain⟨ob,_,_,h1,h2,_⟩:=dd;exact⟨ob,h1,h2.2.1⟩),.(by exact Ts I ?fQ hs he (Ve (qa6 (fB kvs k) z) hd (rel.drop k) HW)),.(by obtain⟨o,es',ep,ho,r⟩:=hm;exact⟨o,es',ep,?B9 o ho,r⟩),∀{pl:?oM}(he:?nK)(c:Cls X.K C)(h:?B2 K5)(hr:?tO),a,.(by subst ey;cases (show u=?aO b from ry);obtain⟨z,hd,xs,rel,dd⟩:=?iS),∀{K:W.Frag}{es:?Q}{x1:Nat}{tpos:Pos}(a b z TI TO i1 i2:Addr)(D:?qS z TI TO i1 i2 a b),a,∀{q:Program}{loose:?gL}{XP:(?e1)->?rX}{YP:World->?rX}{d:DefRec},a,.(by refine⟨fun i m σ H=>m=n-i/\i<=n/\?aW,?wL,?_⟩),.(by exact⟨_,hTI,?rN⟩),.(by exact⟨_,hTO,?rN⟩),.(by exact⟨_,hz,?nG⟩),.(by obtain⟨hz,hTI,⟨u,v,hTO⟩,⟨o1,h1,c1,d1⟩,⟨o2,h2,c2,d2⟩⟩:=st),.(by have Tb:∀c o,?jF->c≠s.heap.objs.size:=fun c o e=>Ao e ?e8),.(by obtain⟨ia,ra,pa,_⟩:=I.tuple Ww;obtain⟨ib,rb,pb,_⟩:=I.tuple lO),.(by obtain⟨ia,ra,pa,_⟩:=I.list Ww;obtain⟨ib,rb,pb,_⟩:=I.list lO),∀(hst:?iQ=?kK::?jT:=by rfl),a,.(by refine⟨_,rfl,wpAny_letOwnedTupleGo_zip hz' fun h3 hz3 Oh=>?_⟩),.(by have hl:?AP ?oN:=by have:=Pm kvs k v;omega),.(by obtain⟨t,q⟩:=(show ?wQ from ry);subst q;rfl),.(by obtain⟨t,q⟩:=(show ?pZ from ry);subst q;rfl),∀{K:W.Frag}{CL CT:Addr}{H H':Hp}{Z:?kB}{p L R dn:Addr}{h w B:Nat},a,.(by subst e;exact ?L ⟨?w3,?v0⟩),∀(d it:Addr)(o:Obj){es:?jD}{ep:Nat}(hd:?j5),a,∀(hr:?tO)(hg:Gl X x)(hm:?cW x=?c (?f C))(ha:?uX),a,.(by intro Ac s σ H xs us Q I r h;obtain⟨a,kvs,rfl,e,q⟩:=h),.(by rcases g with⟨kvs,k,e,ey,l⟩|⟨kvs,k,b,e,ey,eb,l⟩),.(by subst e;exact ?L ⟨?tY,?sH⟩),.(by exact⟨o1,h1,?x6⟩),.(by exact⟨o2,h2,fun v q=>by rw[d2]at q;cases q⟩),.(by have ht:?jW ?cT ?aV:=(?AD gz)),.(by obtain⟨f0,f1,f2,f3,f4,f5⟩:=?q3),.(by rw[Aj (fun z=>by rw[z,e]at n;cases n)];exact n),∀(g:?l7 j t n)(gt:?aL t vs),a,.(by exact(?b1 c n1).trans (?k2)),.(by exact I2.fpOk ?a1 (I2.hok.fresh ?a1)),.(by rw[?fV,?j (?wI)]),.(by show ?zL (?fU ?cT 2>>=_) _),.(by show ?zL (pyNext ?e6>>=_) s),∀(Pv:?pX)(h0:?vM),a,∀(hdb:(x==("__debug__":Str))=false:=by decide),a,∀{w n:Nat}{R:Mat}{u v:?k}(hu:In w n R u),a,∀(hd:∀σ H,Pv ?k0 σ H->?cQ),a,∀{n:Nat}{f g:?k}(h:∀i,i<n->f i=g i),a,∀{n:Nat}{g:TG}{tb:TS}{D:Ends}{σ:St}{H:Hp},a,∀(ha:?hD)(hb:?qQ),a,∀(gx:xs[n]?=?bO) (gy:ys[m]?=?c y),a,∀{j k:Nat}{C:Addr}{ps:?gL}{sp:Sp},a,∀(Pv:?kM)(h0:?oH),a,∀(ts:?c0) (kvs:?X),a,∀{a b:Addr}{ms ns:?aH},a,∀{p:κ × V}{r:?cR}{k:κ},a,∀(hd:∀σ H,Pv n σ H->?cQ),a,∀{j t:Addr}{n:Nat}{vs:?cA},a,∀(e:H a=?eT),a,@((?a).go i H/\∃N:?cB,?hN/\∀x H',(?b).yld i H x H'->?f3),@(?d _ _ ?a _ _ ?b),@(?d ?a A ?b Q E s),@(?J (?a0 ?a m ?Y) ?b [] pos),@(qu1 hz ⟨?m2,?tU,_,_,H1,rfl,?qO,?a la lb _ _ _ _ _ (zipApart_new a1 a2),?nX,?b0,q⟩),@(⟨?l,x,y,?e8,rfl,rfl,fun zs q=>by rw[?a q Ww];exact hx,fun zs q=>by rw[?b q lO];exact hy⟩),@(qa3 (?uQ (?k6 (name:=?kP) ht qv6 (qk1 qv6 ht ?uL ?a (F.args_zip_next_1 _))))),@(Bl X Ac σ ?a ?b),@(qa3 (qg9 gz rfl (x:=?a) rfl ?b)),@(?pT m.base m.few m.line qr7 ?a ?b (Df (ho Ac s σ H _ I h) fun u s1 _z=>?_)),@(?a Ac s1 σ H1 _ I1 q1),@(fun kv=>if ?dU then ?a else kv),@(∀(i:Nat) t,?h8->∃kv:?gT,kvs[i]?=?c kv/\H ?a=?c (?z [kV ?B,kv.2])),@(qo6 (Df (hf Ac s2 σ H2 _ I2 q2) fun fv s3 ?a=>Calls.spliced_nil ?_)),@(fun i H v H'=>∃p x y,?S/\v=?d1/\H'=?dI/\(∀xs,?a->?cH)/\∀ys,?b->?d2),@(?hY { cls:=?y ?dZ,data:=?b9 #[?e ?bT ?a,?e ?v t',?e ?v t''] }),@(fun σ H R=>ta σ H fun vs H1=>?a),@(s.heap.objs.size+?a),@(ms.all fun p=>?t (?H ?a p.1=?d8)),@(?nL pos f first (?gE pos ?a) (?lO pos (keywordEach [] ?i))),@(?a<s.heap.objs.size),@(fun i h=>?oF/\?wZ/\(∃c d,?x h TO c d)/\?a i1 a i/\?b i2 b i),@(fun c o _ _ hc e _=>?a),@(?a (?bM WData.int)),@(?a q loose XP YP ?oK d [] (fun f vs=>PySem.call f vs)),@(fun c ps e=>⟨#[],by rw[Aj (Tb c _ ?a),e];simp⟩),@(fun σ' H'=>?eK/\?a σ' ?eE),@(?m4 (t':=s.toks) (fp:=?a) ?b hf),@(?a _ _ (j8 _ _ ?b) q),@(⟨_,?a,rfl⟩),@(qa5 _ ?a),@(qa3 (?a ?b)),@(PI X ?g4 (?J (?bX ?aV p) ?e7 [] pos) (?a K ta)),@(?a7 ?a z a b ?b),@(qa3 (ql7 ?a rfl ?_)),@(?h (?a × ?b)),@(∀d o kvs,(x=?f d)->(H1 d=?eT)->(R (?a) H1)->?b),@(Sh ?a g ?b te D Q τ H),@(PE X (?J (?a0 o ?a ?Y) ?hM [] ?bP) (?b td ty tx)),@(Am (fun k=>x k*R k c) ?a),@((?a).stop i H/\?cQ),@(?a<=sizeLine),@(SqL K H ?a ?b),@(qj7.mpr (?g7 (qc7 ?a))),@(?c (?A ?a)),@(?aQ ⟨?a,?bU,fun ys' τ' H' p'=>?b,?f2⟩),@(tupleKind_room_in1 ?a),@(?fR ?l=?c { cls:=?eN,data:=?b4 #[?a,?b] }),@(?d6 H ?a D ?b w f),@(?bA P w H h a ?a),@(?a (fun p=>if ?I then(p.1,v) else p)),@(td σ H fun x H1=>?a),@(qa3 (?a hoa hda ?b)),@(by rw[Aj ?a];exact q),@(?a ?cN X.w X.K ?cW ?lH C m ps j sp),@(?qC ?b2 (?c (?a)) ?rZ ?i=pure ?a2),@(?aQ ⟨?a,?bU,fun σ' H' p'=>?b,?f2⟩),@(qb4 ⟨plainId_quiet Lc ?a,?_⟩),@(by show(?a:Nat)<=sizeLine;decide),@(?a=s.heap.objs.size),@(∀i c,r<=i->i<n->c<w->?a i c=0),@(kk _ ?a (fun q=>(hf _ q).2.1 rfl) ?b),@((?a).map ?E),@(show ?a ?b ?lI from pb),@(show ?a ?b ?k8 from pa),@(PySem.F.args_dict_get_3 _ _ ?a),@(∀zs τ H,Pv ?a zs τ H->Q H),@(upd ?a ?b (.dK (?eS))),@(show ?a=(ms.length-?b)+1 by omega),@(Rep K H ?a ?b),@(.Tuple ?a x1 tpos),@(s1.heap.objs.size+?a),@(?a Ac s σ H _ I h),@(Builtin.«zip.__next__» ⟨[?f ?a],[]⟩),@(upd H ?a ?b),@(PE X (?zN o ?a) (IW C m sp [] E0 ta ?b)),@(?a (t':=s1.toks) ?b),@(fun i H=>∃xs ys x y,?a/\?b/\?rJ),@(⟨?a8,?hG,?_,rfl,(?zP ?a ?b),?tR,?b0⟩)])
universe e9
theorem Bl.turnedN{X:Cx}{Ac:Bj}{σ:St}{H:Hp}[?aE]{h':Heap}{t':Nat}{fp:?c0}[?n](k:∀b o,b ∉ fp->?vE)(hf:∀b∈fp,Qs X Ac H b) :
 ?zR H ?qF:=by
 have j8:∀c o,?jF->c ∉ fp:=?uH
 refine I.step (g':=s.gens) (d':=s.drawn) (ch:=fp) (?d3) (fun b o _ _ hc e _=>?lY) (fun b o _ _ hc e _=>⟨o.slots,?lY⟩) (fun _ _ _ _ n=>n)
  (fun b o hc e=>⟨o,?lY⟩) (?jS) (fun _ _ _ e=>e) (fun b ps e=>⟨#[],by rw[e];simp⟩) ?gM (fun b u e=>?_) ?cU
 . have f:=?fO;ext i5
 . obtain⟨o,es',ep,ho,r⟩:=hm;exact⟨o,es',ep,k _ o (fun z=>(hf _ z).2.1 rfl) ho,r⟩
 . refine(?K b u e).stay (fun c y hc' q=>?_) (fun c q=>q) fun c ys q=>q;ext iE
   . exact ?AC k e
   . exact ?AC k hc'
noncomputable def ZC[?W](a b:Addr):It :=
 ⟨?BP ?h0 ?h6,
  ?zY ?h0 ?h6,
  fun i H=>∃xs ys,?h0/\?h6/\(?uW\/ys.length<=i)⟩
theorem MW[?D][?y7] :
 Vo P w K ?g4 ?hK ?cO z (?A5 ?xF ?xF) where
 mem:=?R
 obj:=fun i h st c hc=>by
  ext yD;ext i2
  . ext yC
  . ext yA
  . ext yB
  . ext yT
  . ext yU
 keep:=fun i h h' st k=>by
  ext xM
 item:=by
  ext aA;ext i9;obtain⟨xs,ys,x,y,Ww,lO,hx,hy⟩:=hg;ext yG;ext xW;refine wpAny_pyNext_zip_item D hz hTI hTO h1 h2 ?kY ?j6 (x:=u) (y:=v) (by simpa using hu) (by simpa using hv) ?nR;ext yI
  replace Oh:?uY:=Oh
  have kk:?rD:=fun c o hc e=>by
   ext i3;ext yZ
  ext y1;have hi1:?oC i1 a ?C:=?t0;have hi2:?oC i2 b ?C:=?tB;ext xI
  ext yE;refine(?BQ ?p0 ?p0)
  . refine ?iW (s:=s) (h':=h3) (t':=s.toks) (H':=?hG) I (g':=s.gens) (d':=s.drawn) (ch:=?cO) (?b0) (?A6 ?cE) (?A6 ⟨o.slots,?cE⟩) (fun c o hc e n=>?_) (fun c o hc e=>⟨o,?cE⟩)
     (fun c zs e=>?hQ) (fun c o w' e=>?hQ) (?A9 e) ?gM (fun c w' e=>?_) ?cU
    . have f:=?gR;ext i5
    . rw[?x0];exact n
    . ext y4
    . by_cases hcs:?nS
      . ext xX
      . ext xS
        ext iE
        . exact ?rK
        . ext mO
  . have lb:?x9:=by
     ext xZ
     . exact ltz
     . exact qb2 hTI
     . exact qb2 hTO
     . exact qb2 q1
     . exact qb2 q2
    rw[Aj (qc7 lb)];exact(?gR).1
 done:=by
  ext aA;ext i9;obtain⟨xs,ys,Ww,lO,hx⟩:=hg;ext yG;have la:=ra.length;have lb:=rb.length;refine wpAny_pyNext_zip_end ?cM D hz hTI hTO h1 h2 ?kY ?j6 ?_ ?oY
  . rcases hx with q | q
    . exact ?L ?dE
    . exact ?aQ ?dE
  . ext i3;exact ?k2
 self:=?wA
inductive VX[?W][?mK]:Prop
 | mk:∀a b,?s1->((∃xs,SqL K H1 a xs))->((∃ys,SqL K H1 b ys))->(R ?hK H1)->?oA
noncomputable def A30[?W](ta:TA):TI:=?A0 ?oA
theorem mJ:bootBuiltins ?aV=?c (?eJ):=?c9
theorem bP[?xL] :
 ?AG A30:=by
 subst hK;intro Ac s σ H R I h;refine Call_ (L1 I hg hm mJ (qg5 (Df (ha pos Ac s σ H _ I h) fun us s1 ⟨vs,H1,I1,r1,q1⟩=>?_) (by rw[hs,hs2]) (by rw[hs2];rfl)));obtain⟨la,lb,e,⟨xs,Ww⟩,⟨ys,lO⟩,q⟩:=q1;subst e;cases r1 with
 | cons ra rr =>
   cases rr with
   | cons rb rr =>
     cases rr;cases ra;cases rb;obtain⟨ia,_,pa,_⟩:=I1.list Ww;obtain⟨ib,_,pb,_⟩:=I1.list lO;have a1:?n5:=by obtain⟨_,e,_⟩:=pa.isList;exact ?dM
     have a2:?rU:=by obtain⟨_,e,_⟩:=pb.isList;exact ?dM
     refine call_zip_2 ?kY ?j6 ?oB;refine ?zO MW
     have lc:?t9:=by
      ext i2
      . ext b7
      . ext b7
      . ext b7
      . exact ?eC
      . ext b7
     exact ?wD
section
variable{g:TG}{tc:TT}[?iC]
theorem FH[?xR]
 [?xK]
 [?mM]:?AL ?hK tc:=by
 ext xQ
 . ext xJ
 . have e:i=n:=O9m
   ext yN
theorem TU[?aD]{a b:Addr}{xs ys:?T}[?z9](hn:n=min xs.length ys.length)[?zD](hl:∀i σ H,i<=n->?aW->?p7)
 (hs:∀i x y σ H p,?cH->?d2->?aW->?S->g ?aG σ (?dI) ?g1) [?zH] :
 ∃W:?h5,?g2/\∀i m σ H,?fK →
   (?AO ?fX)\/(?zK ?fX ?fX):=by
 ext y9;rintro i m σ H ⟨rfl,hi,pp⟩;obtain⟨qa,qb⟩:=?pO;by_cases hlt:i<n
 . refine ?B4 ?nH ?t6;obtain⟨p,u,v,hp,rfl,rfl,y1,y2⟩:=y;exact hs i u v σ _ p (y1 xs qa) (y2 ys qb) pp hp
 . have e:i=n:=O9m
   subst e;exact ?L ⟨?w3,?sH⟩
universe e9
theorem op_mulX{X:Cx}:OpR X (?tN .Mult) (rI ?bV fun i j=>?e (i*j)):=opI fun _ _ _ _ _ _ _ hc q=>mul_int q hc
theorem JT{i:Int}{m:Nat}(h:?sI):?lV i<=m:=by
 unfold Builtin.Int.intBits;split
 . exact ?aK
 . rename_i h0
   have hne:i.natAbs≠0:=by
    intro z
    exact h0 (by have:i=0:=O9m
                 simp[this])
   exact(?lM hne).mpr h
theorem Q0{i j:Int}{m n:Nat}[?mZ](hj:j.natAbs<2 ^ n)(h:m+n<=134217728):?bV i j:=by
 have h1:=JT hi;have h2:=JT hj
 have h3:¬((?lV i:Nat):Int)+((?lV j:Nat):Int) > ((bitsLine:Nat):Int):=by
  have:bitsLine=134217728:=?jL
  omega
 unfold IntMulOk;intro hz;simp only[qc2]at hz;have h4:=hz.2;unfold Builtin.Int.intTooBig at h4;exact h3 (by simpa using h4)
theorem BV{i j:Int}(h1:-(2 ^ 64)<i)(h2:i<2 ^ 64):?bV i j:=zI.ok (?L ?kT)
universe L2
namespace L2
open PySem PySem.W PySem.Calls PyProof.Rows
noncomputable def Px:Nat:=1048576
theorem Xn:∀{ns:?bS}{x:Int},x∈ns->?pS<=?A7 WData.weightAll
 | n::ns,x,h=>by
   rw[qe0];simp only[WData.weightAll];rcases qb9.mp h with rfl | h
   . omega
   . have:=Xn h;omega
theorem mF{ns:?bS}(h:WData.layableAll [?A7 WData.list]=true):?gJ:=by
 intro x hx
 have h1:?t (?s6 (?A7 WData.list)<=2 ^ 20)=true:=by
  have:WData.layable (?A7 WData.list)=true:=by simpa[WData.layableAll]using h
  unfold WData.layable at this;exact(Bool.and_eq_true_iff.mp this).2
 have h2:?A7 WData.weightAll<=1048576:=by
  have:=qc8 h1;simpa only[WData.weight]using this
 have h3:=Xn hx;by_cases h0:x.natAbs=0
 . rw[h0];exact Nat.pow_pos ?Z
 . have h4:?pS=x.natAbs.log2+1:=by
    simp only[WData.weight];rw[?j fun z=>h0 (by rw[show x=0 by simpa using z];rfl)]
   have h5:x.natAbs.log2<Px:=by show _<1048576;omega
   exact(?lM h0).mp h5
theorem DC{l:OpenLaw}{n:Nat}[?y8]
 (hn:?pM) (hdf:?u5)
 (call:∀(w:World) (s₀ s₁:Shared) (mg mb:?e1) (fa:Addr) (o:Obj) (pm cd doc:Value) (a:Addr) (vs:?fG) (ns:?bS),(?gJ) →
   Ground q loose [] XP w s₀ mg mb ?iU->YP w ?iU →
   ?qG fa=?m->o.data=.func (docDef ?lX d.params d.body d.scope pm cd doc)->s₁.heap.CodeRec cd ?lX->?rH →
   ?qG a=?c { cls:=?gQ,data:=?b4 vs.toArray }->IntsAre vs ns->?w7->s₁.gens=#[] →
   codeAny (model l.prog w) callerA (.call ?q0 ⟨?dP,[]⟩) (fun r s'=>r=.ok (.ret (?gS))/\OldK ?iU s'.heap/\s'.os=s₁.os/\AllBare s'.gens) s₁) :
 ?A8 WalkO:=by
 intro w s₀ s₁ mg mb G Y fa o pm cd doc dV kV ho hd hcd hD hmg hg args vals as hpre hlay hrd hwl hlo;obtain rfl:dV=?w:=Dflts.none hD hdf;obtain rfl:kV=?w:=Dflts.noKw hD;obtain⟨a,vs,ns,rfl,rfl,hobj,hints,hlen⟩:=Att.script_of hn hpre hwl;refine enter_call (codeAny_mono (?bC w s₀ s₁ mg mb fa o pm cd doc a vs ns (mF hlay) G Y ho (fd_plain hd) hcd hmg hobj hints hlen hg) fun r s' hq=>?_);obtain⟨rfl,h2,h3,h4⟩:=hq;exact⟨?L ⟨?gS,?gS,[],rfl,fun _=>rfl,?gS,Att.post_true l _,fun _=>⟨List.Pairwise.nil,fun _ hm=>(nomatch hm)⟩⟩,h2,h3,h4⟩
theorem walk_ofB{l:PySem.W.OpenLaw}{n k:Nat}[?y8]{K:Params->PySem.W.Frag}{CX:World->QO}{sp:World->Sp}{x:Str}
 (hn:?pM) (hn2:?AP n) (hdf:?u5) (hr:Gc k callerA)
 (hY:∀(w:World) (h:Heap),YP w h->?lL h)
 (F:∀(w:World) (mg:?e1) (fa:Addr) (h:Heap),?lL h->h.Ns ?t3 mg->?rH →
   ∃fd:FuncData,(∀(s:Shared) (u:Value),BindsTo s fd ⟨[u],[]⟩ [(x,u)]) ∧
     ∀base:Heap,?lL base->base.Ns ?t3 mg->By l.prog w (K w.params) mg base (CX w) k fa fd [x] (sp w))
 (jM:∀(w:World) (H:Hp) (a:Addr) (ns:?bS),?w7->(?gJ)->ZA H->SqL (K w.params) H a ?qB->sp w ?dP H (fun v _=>v=?hP) ?q6)
 (hCX:∀(w:World) (H:Hp) (s:Shared) (e:Value) (s':Shared),CX w [] H s (?q6) e s'->False) :
 ?A8 PySem.W.WalkO:=by
 refine DC hn hdf fun w s₀ s₁ mg mb fa o pm cd doc a vs ns yF G Y ho hd hcd hmg hobj hints hlen hg=>?_;have KX:=hY w _ Y;obtain⟨fd,hb,hF⟩:=F w mg fa _ KX G.T.g hmg;exact oU KX G.T.g G.T.b G.T.builtins G.T.nolimit hg hobj hints (qa6 hlen hn2) hr hF hb (fun H hO hS=>jM w H a ns hlen yF hO hS) fun H e s'=>hCX w H s₁ e s'
universe L2
namespace Hb
noncomputable def Am(f:?k):?k
 | 0=>0
 | n+1=>?cJ
theorem Al{f g:?k}:∀{n:Nat},(∀k,k<n->f k=g k)->?aU=?f6
 | 0,_=>rfl
 | n+1,h=>by
   show ?cJ=?f6+g n;rw[Al ?sL,h n ?g]
theorem P5:∀n:Nat,Am (?eA) n=0
 | 0=>rfl
 | n+1=>by show ?eL+0=0;rw[P5 n];rfl
theorem C5(f g:?k):∀n:Nat,Am (fun k=>f k+g k) n=?aU+?f6
 | 0=>rfl
 | n+1=>by
   show ?eL+(f n+g n)=(?cJ)+(?f6+g n)
   rw[C5 f g n];omega
theorem Bg(c:Int)(f:?k):∀n:Nat,Am (fun k=>c*f k) n=c*?aU
 | 0=>by show(0:Int)=c*0;rw[qf3]
 | n+1=>by
   show ?eL+c*f n=c*(?cJ);rw[Bg c f n,Int.mul_add]
theorem Hu(c:Int)(f:?k)(n:Nat):Am (fun k=>f k*c) n=?aU*c:=by
 rw[qf4,←Bg];exact Al fun k _=>qf4 ..
theorem C9[?iL](m:Nat):∀n:Nat,Am (fun i=>Am ?bL m) n=Am (fun j=>?x2) m
 | 0=>(P5 m).symm
 | n+1=>by
   show ?eL+Am (f n) m=Am (fun j=>?x2+f n j) m;rw[C9 f m n,C5]
theorem Dc(f:?k)(i:Nat):∀n:Nat,Am (fun k=>(if k=i then 1 else 0)*f k) n=if i<n then f i else 0
 | 0=>by simp[Am]
 | n+1=>by
   show ?eL+(if n=i then 1 else 0)*f n=_;rw[Dc f i n];by_cases h:n=i
   . subst h;simp
   . by_cases h2:i<n
     . rw[?q h2,?j h,?q ?g];omega
     . rw[?j h2,?j h,?jE];omega
noncomputable def Ho[?b6]:?bS:=?pQ f
theorem J0[?b6]:(?bF).length=n:=by unfold Ho;rw[qa4,qo2]
theorem Xd{n i:Nat}[?aP](h:i<n):(?bF)[i]?=?c ?bL:=by
 unfold Ho;rw[qa9,?wE h];rfl
theorem Y2[?b6]:?qN=?bF++[f n]:=by
 unfold Ho;rw[qk4,qb5];rfl
theorem AJ[?z8]:?bF=Ho n g:=by
 unfold Ho;refine qu6 fun i hi=>h i (qe5.mp hi)
theorem sZ(n:Nat):(?uF n [(0:Int)]).flatten=?tV:=by
 induction n with
 | zero=>rfl
 | succ n ih =>
   rw[Y2,←ih];clear ih
   induction n with
   | zero=>rfl
   | succ n ih =>
     rw[qi9,qk5,ih];have ih':=ih;rw[qi9,qk5]at ih';rw[←qw1,ih']
theorem yY{i j:Int}{m:Nat}[?mZ](hj:j.natAbs<?h4):(i+j).natAbs<2 ^ (m+1):=by
 have h:=qf1 i j;rw[qg6];generalize ?h4=q at *;omega
theorem UC{i:Int}{m n:Nat}[?mZ](h:m<=n):i.natAbs<2 ^ n:=qb3 hi (qe7 ?Z h)
theorem IJ[?aP]{m:Nat}:∀{n:Nat},(∀k,k<n->(f k).natAbs<?h4)->(?aU).natAbs<2 ^ (m+n)
 | 0,_=>by show(0:Int).natAbs<_;exact Nat.pow_pos ?Z
 | n+1,h=>by
   have h1:=IJ (n:=n) (f:=f) fun k hk=>h k O9m;show(?cJ).natAbs<2 ^ (m+n+1);exact yY h1 (UC (h n O9m) (qe8 m n))
universe Hb
namespace Hb
open PySem L2
noncomputable abbrev VI[?b6]:?T:=?BA ?bF
noncomputable def dL[?b6]:L2.D:=?A (Fj (?bF))
noncomputable def dT(h w:Nat)[?iL]:L2.D:=?A ((?oL h).map ?lN)
section
variable[?aD]{H H' H1 H2:Hp}
theorem Bv[?b6]:?rS=n:=by rw[qa4,J0]
theorem Cm{n i:Nat}[?aP](h:i<n):?eM[i]?=?c (?e ?bL):=by rw[qa9,Xd h];rfl
theorem Ao2{n i:Nat}[?aP](h:i<n):iK ?eM (?fD:Int)=?c (?e ?bL):=Bp (Cm h)
theorem Vn{n i:Nat}[?aP]{u:V}(h:?eM[i]?=?eV):i<n/\u=?e ?bL:=by
 have h1:i<?rS:=(?dO h).1;rw[Bv]at h1;rw[Cm h1]at h;exact⟨h1,(qc6 h).symm⟩
theorem T3[?b6]:VI ?bH f=?h9++[?e (f n)]:=by
 show ?BA ?qN=_;rw[Y2,qb5];rfl
theorem P1[?z8]:?h9=VI n g:=by
 show ?BA ?bF=(Ho n g).map ?E;rw[AJ h]
theorem YY(n:Nat):(?uF n [?E 0]).flatten=VI n ?eA:=by
 show _=?BA ?tV;rw[←sZ,List.map_flatten,List.map_replicate];rfl
theorem An7{v:V}{n:Nat}[?aP](h:?BH v ?rE):∃a,v=?u/\?kR:=by
 obtain⟨a,vs,e,q,r⟩:=h;rw[Ib.mp r]at q;exact⟨a,e,q⟩
theorem pU{a:Addr}{n:Nat}[?aP](h:?kR):?BH ?a9 ?rE:=⟨a,_,rfl,h,Ib.mpr rfl⟩
theorem Hk{v:V}{h w:Nat}[?aC](r:?pD):∃a us,v=?u/\?tW/\?lA/\∀i u,us[i]?=?eV->i<h/\∃b,u=?F/\?wS:=by
 obtain⟨a,us,e,q,r⟩:=r;have hl:?lA:=by have:=r.length;simpa using this
 refine⟨a,us,e,q,hl,fun i u hu=>?_⟩;have hi:i<h:=by have:=(?dO hu).1;omega
 obtain⟨d,hd,rd⟩:=r.getV hu;rw[qa9,?wE hi]at hd;have e2:d=?t4:=(qc6 hd).symm;subst e2;exact⟨hi,An7 rd⟩
structure Rows(H H1:Hp)(D:Addr)(as:?c0)(w:Nat)[?iL]:Prop where
 same:?rR
 free:?g9
 «at»:H1 D=?AS (?lT)
 row:∀j a,as[j]?=?c a->?rL/\a≠D/\H1 a=?AS (VI w (f j))
theorem Rows.nil{D:Addr}{w:Nat}[?aC](h:?g9):?AW (?BM D (?A [])) []:=⟨Same.new h,h,Ab,fun j a e=>?m3⟩
theorem Rows.push{D b:Addr}{as:?c0}{w:Nat}[?aC][?eX](hb:H1 b=none)(s:?o4)(h2:H2 b=?AS (VI w (f as.length))):?AW (upd H2 D (?A (?lT++[?F]))) (as++[b]):=by
 have hne:b≠D:=fun z=>by rw[z,R.at]at hb;cases hb
 refine⟨(R.same.trans s).turn ?dF,?dF,by rw[Ab,qb5];rfl,?nE⟩;by_cases hj:j<as.length
 . rw[qd1 hj]at e;obtain⟨h1,h2',h3⟩:=?eR;exact⟨h1,h2',by rw[Aj h2'];exact s _ _ h3⟩
 . have hl:j<(as++[b]).length:=(?dO e).1;have ej:j=as.length:=by simp at hl;omega
   subst ej;have eb:b=a:=?dL
   subst eb;exact⟨R.same.free hb,hne,by rw[Aj hne];exact h2⟩
theorem Rows.rep[?iJ]{h w:Nat}[?aC][?eX](hl:?kQ):Rep K H1 ?cV ?g5:=by
 refine⟨D,_,rfl,.of R.at,?_⟩;subst hl
 have go:∀(bs:?c0) (n:Nat),(∀j a,bs[j]?=?c a->H1 a=?AS (VI w (f (n+j))))->Reps K H1 (?pI) ((?j8 n bs.length).map ?lN):=by
  intro bs
  induction bs with
  | nil=>intro n _;rfl
  | cons b bs ih =>
    intro n hr;refine⟨?F,?pI,rfl,pU (.of ?_),?_⟩
    . have:=hr 0 b rfl;simpa using this
    . refine ih ?bH ?nE;have:=hr ?dX a ?fF;rw[?oQ];exact this
 have:=go as 0 fun j a e=>by rw[qt4];exact ?m0
 rw[List.range_eq_range'];exact this
theorem Rows.later[?iJ]{w:Nat}[?aC][?eX](s:?o4):?AW H2 as :=
 ⟨R.same.trans s,?dF,s _ _ R.at,fun j a e=>⟨(?eR).1,?r2,s _ _ ?m0⟩⟩
theorem Rows.earlier{H0:Hp}[?iJ]{w:Nat}[?aC](s:?cS H0 H)[?eX]:?d6 H0 H1 D as w f :=
 ⟨s.trans R.same,?kC ?dF,R.at,fun j a e=>⟨?kC (?eR).1,?r2,?m0⟩⟩
theorem AW{g:TG}[?iC][?xR]
 (hs:∀i x y zs τ H p,?cH->?d2->?aT->?S->g ?aG τ (?dI) fun τ2 H2=>te τ2 H2 ?n9)
 [?mM]:?AL ?hK kQ:=FH hn Pv h0 hl (fun i x y zs τ H p e1 e2 pp hp=>hs i x y zs τ H p e1 e2 pp hp) hd
universe e9
noncomputable def newL(H:Hp)[?b6](Q:V->?c1):Prop:=∀(D:Addr) (H':Hp),?g9->?eQ->H' D=?AS ?eM->?vK
noncomputable def SR(H:Hp)(h w:Nat)[?iL](Q:V->?c1):Prop:=∀(D:Addr) (as:?c0) (H':Hp),?kQ->?AW H' as->?vK
section
variable[?W]
noncomputable def aC:Sp:=fun vs H Q _=>z8 fun ?hO (h w j:Nat) ?gI=>Dp (vs=[v,?e j]) ?f7 ?gZ (j<w) (newL H h (fun i=>f i j) Q)
noncomputable def Hv:Sp:=fun vs H Q _=>T7 fun ?hO ?l8 ?gI=>Dp (vs=[v,?e w]) ?f7 ?gZ ?gX (SR H w h (fun i j=>f j i) Q)
universe e9
section
variable[?W]
noncomputable def W6:Sp:=fun vs H Q _=>Ij fun ?p4 (ns:?bS)=>Dp (vs=?dP) (?AQ a ?qB) (ns.length<=63) ((?gJ)) (∀H',?jJ)
noncomputable def Sm:Sp:=fun vs H Q _=>uK fun(a b:Int) (x y:Addr) (n:Nat) (p q:?k)=>K8 (vs=[?e a,?f x,?e b,?f y]) (?AQ x (VI n p)) (?AQ y (VI n q)) (?hF) ((∀j,j<n->?bV a (p j)/\?bV b (q j))) (newL H n (fun j=>a*p j+b*q j) Q)
noncomputable def Qw:Sp:=fun vs H Q _=>zG fun(x:Addr) ?hO ?l8 (a:?k) ?gI=>M9 (vs=[?f x,v,?e w]) (?AQ x (VI h a)) ?f7 ?gZ ?gX ((∀k j,k<h->j<w->?bV (a k) (f k j))) (newL H w (fun j=>Am (fun k=>a k*f k j) h) Q)
noncomputable def Re:Sp:=fun vs H Q _=>uK fun(u v:V) (h d w:Nat) (f g:?bJ)=>d8 (vs=[u,v,?e w]) (?BH u (dT h d f)) (?BH v (dT d w g)) ?gZ (d<=1000) ?gX ((∀i k j,i<h->k<d->j<w->?bV (f i k) (g k j))) (SR H h w (fun i j=>Am (fun k=>f i k*g k j) d) Q)
noncomputable def Xv(_K:W.Frag):Sp:=fun vs H Q _=>∃n i:Nat,vs=[?hL,?hR]/\?hF/\newL H n (fun j=>?p9) Q
noncomputable def bI(_K:W.Frag):Sp:=fun vs H Q _=>∃n:Nat,vs=[?hL]/\?hF/\SR H n n (fun i j=>?p9) Q
universe e9
universe Hb
namespace L2
open PySem PySem.Spec PyProof.Rows
structure K5[?mV][?W][?mH](m:Str)[?mQ]:Prop where
 ex:∃(f:Addr) (fd:FuncData),QC K C m f/\?k7
structure fV[?mV][?W][?mH][?mQ]:Prop where
 ex:∃(f:Addr) (fd:FuncData),Mk K C f/\?k7
section
variable{X:Cx}[?aD][?zC]{x m f:Str}{p pos apos pos':Pos}{e o value:Expr}{es:?Q}{ta tv:TE}{t:TA}
theorem Dh[?y5](ha:?uX)[?mX]
 [?yH] (hpl:?iV (·.1)=false:=by rfl)
 (ht:?N (?zN o ?aX) ?i=(do
   let ov ←?hU
   ?lD
   let ?iX ←?lC
   ?q7):=by rfl) :
 ?BN ?aX t:=by
 ext mJ;exact SA he c h1 h3 ?gA h2 ?p EC ha hst hpl ht
theorem Mo[?y5][?mX]
 (ht:?N (?zN o []) ?i=(do
   let ov ←?hU
   ?lD
   let ?iX ←?lC
   ?A3 (?b3 [] ?i)):=by rfl) :
 ?BN [] wK:=by
 ext mJ;exact NV he c h1 h3 ?gA h2 ?p EC ht
theorem Mp(h:fV ?cN X.w X.K ?cW ?lH C ps j sp)[?yP](hk:j+1<=k:=by decide)[?z5]
 (he:?iQ=?kK::?jT:=by rfl) (hpl:?iV (·.1)=false:=by rfl):PE X (?J (?bX x p) ?aX [] pos) (uP C sp [] E0 t):=by
 ext mJ;exact sD h1 h3 ?gA hg hm h2 ?p EC ha hdb he hpl
theorem Az(he:PE X e ta)(hK:X.K=K:=by rfl)(hb:?m7 e f ?i (?eG)=?eG:=by rfl):PE X (?a0 e f pos) (Ac8 K ta f):=by subst hK;exact WY he hb
theorem Ek(ha:?nK)(hv:?v1)(hK:X.K=K:=by rfl)(hs:?B3 ?u6:=by rfl):PS X (.Assign [?u6] ?b2 pos) (Ad9 K ta tv f):=by subst hK;exact WV ha hv hs
universe e9
noncomputable abbrev TJ:=St->Hp->(?c1)->Prop
section
variable{X:Cx}{e v₁ v₂:Expr}{es rest:?Q}{te:TE}{tj:TJ}{pos:Pos}
universe e9
universe L2
namespace Hb
open PySem L2
inductive Tn where
 | mi (i:Nat) | sw (i j:Nat) | ad (i j:Nat) (n:Int)
noncomputable def QT:Tn->L2.D
 | .mi i=>?z [.str "minus",?hR]
 | .sw i j=>?z [.str "swap",?hR,?e j]
 | ?fC=>?z [.str "add",?hR,?e j,?hL]
noncomputable def QY:Tn->(?bJ)->?bJ
 | .mi i,f=>fun r c=>if r=i then -(f i c) else f r c
 | .sw i j,f=>fun r c=>if r=j then f i c else if r=i then f j c else f r c
 | ?fC,f=>fun r c=>if r=i then 1*f i c+n*f j c else f r c
noncomputable def tnB:Tn->Tn
 | ?fC=>.ad i j (-n)
 | t=>t
noncomputable def tnA:Tn->Tn
 | ?fC=>.ad j i (-n)
 | t=>t
noncomputable def tB(B:Nat):Tn->Prop
 | .ad _ _ n=>n.natAbs<2 ^ B
 | _=>True
theorem Mm{f:Str}{v:V}:∀{fs:?AJ Str V}{x:V},fs.lookup f=?bO->(putF f v fs).length=fs.length
 | [],x,h=>by cases h
 | (g,y)::r,x,h=>by
   unfold putF;by_cases e:g=f
   . rw[?eP];rfl
   . rw[?fV,qd0,qd0];rw[qo8]at h;have e2:(f==g)=false:=by simpa using ?l1
     rw[e2]at h;rw[Mm h]
noncomputable def Th(H:Hp)(Z:?kB):Hp:=fun a=>@ite _ (Z a) (Classical.propDecidable _) none (H a)
section
variable[?aD]{H H' H1:Hp}{Z:?kB}
theorem Tg{a:Addr}(h:¬Z a):?r8=H a:=by unfold Th;rw[?j h]
theorem Zd{a:Addr}(h:Z a):?r8=none:=by unfold Th;rw[?q h]
theorem Mv:?cS ?s4 H:=fun a o e=>by
 by_cases h:Z a
 . rw[Zd h]at e;cases e
 . rw[Tg h]at e;exact e
theorem aQ(h:∀a o,¬Z a->H a=?m->H' a=?m):?v7:=fun a o e=>by
 by_cases hz:Z a
 . rw[Zd hz]at e;cases e
 . rw[Tg hz]at e ⊢;exact h a o hz e
theorem NF(s:?eQ):?v7:=aQ fun a o _ e=>s a o e
theorem fH{a:Addr}{us:?T}{h w:Nat}[?aC](hq:?tW)(hl:?lA)(hr:∀i,i<h->∃b,us[i]?=?wJ/\?wS):?BH ?a9 ?g5:=by
 refine⟨a,us,rfl,hq,?_⟩;subst hl
 have go:∀(vs:?T) (n:Nat),(∀j,j<vs.length->∃b,vs[j]?=?wJ/\?AQ b (VI w (f (n+j))))->Reps K H vs ((?j8 n vs.length).map ?lN):=by
  intro vs
  induction vs with
  | nil=>intro n _;rfl
  | cons v vs ih =>
    intro n hv;obtain⟨b,e,hb⟩:=hv 0 ?o;have ev:v=?F:=?dL
    subst ev;refine⟨?F,vs,rfl,pU ?fS,?_⟩;refine ih ?bH ?m6;obtain⟨b',e',hb'⟩:=hv ?dX (by simpa using hj);refine⟨b',by simpa using e',?_⟩;rw[?oQ];exact hb'
 have:=go us 0 fun j hj=>by rw[qt4];exact hr j hj
 rw[List.range_eq_range'];exact this
theorem Rows.hid[?iJ]{h w:Nat}[?aC][?eX](hl:?kQ)(hz:∀a,Z a->?x4):Rep K (Th H1 Z) ?cV ?g5:=by
 have nz:∀a,?rL->¬Z a:=fun a e z=>hz a z e;refine fH (us:=?lT) (.of ?_) (by rw[qa4];exact hl) ?xD
 . rw[Tg (nz D ?dF)];exact R.at
 . have hi':i<as.length:=O9m
   obtain⟨h1,_,h3⟩:=R.row i as[i] (qa0 hi');refine⟨as[i],by rw[qa9,qa0 hi'];rfl,.of ?_⟩;rw[Tg (nz _ h1)];exact h3
universe e9
section
variable[?W]
noncomputable def Iw:Sp:=fun vs H Q _=>Qt fun ?p4 (n:Nat) (f:?k)=>B6 (vs=[?u,?hL]) (?kR) (?hF) (∀H',?eQ->?jJ)
noncomputable def Vw:Sp:=fun vs H Q _=>T7 fun ?hO ?l8 ?gI=>Dp (vs=[v,?e w]) ?f7 (h<=40) ?gX (∀H',?eQ->?jJ)
noncomputable def AE:Sp:=fun vs H Q _=>Ij fun(u:V) (t:Tn)=>E4 (vs=[u]) (?BH u (QT t)) (∀(v:V) (H':Hp),?eQ->Rep K H' v (QT (tnA t))->Q v H')
variable(CL CT:Addr)
universe e9
section
variable[?yM][?aC]{ds:?AJ Bool Tn}
noncomputable def Ls(H H':Hp):Prop:=∀c q,H c=?p5->H' c=?p5
noncomputable def Kp(H H':Hp):Prop:=∀a,?x4->H' a≠none
theorem Kp.trans{H H1 H2:Hp}(x:?iO)(y:Kp H1 H2):Kp H H2:=fun a e=>y a (x a e)
theorem Kp.of{H H1:Hp}(s:?rR):?iO:=fun a e z=>e (?kC z)
theorem Kp.upd{H:Hp}{p:Addr}{o:HO}:Kp H (?BM p o):=fun a e z=>by
 by_cases hap:a=p
 . rw[hap,Ab]at z;cases z
 . rw[Aj hap]at z;exact e z
theorem Kp.x{H H1:Hp}{p:Addr}{o:HO}(s:SameX p H H1)(hp:H1 p=?m):?iO:=fun a e z=>by
 by_cases hap:a=p
 . rw[hap,hp]at z;cases z
 . cases q:H a with
   | none=>exact e q
   | some o'=>rw[s a o' hap q]at z;cases z
universe e9
section
variable[?W]
universe e9
section
variable[?yM][?aC]{ds:?AJ Bool Tn}
universe e9
universe Hb
namespace L2
open PySem PySem.Spec PyProof.Rows PySem.W
section
variable{X:Cx}
noncomputable def Vr(_i j:Int):Prop:=j≠0/\j.natAbs.log2<9000
theorem Vr.of{i j:Int}(h0:j≠0)(h:j.natAbs<2 ^ 9000):Vr i j:=⟨h0,(?lM O9m).mpr h⟩
theorem Kq:OpR X (?tN .FloorDiv) (rI Vr fun i j=>?e (i.fdiv j)):=opI fun _ _ _ _ _ _ _ hc q=>floordiv_int hc.1 q (?L (PyProof.noPylong_of_log2 hc.2))
noncomputable def insAt(k:Nat)(y:α)(xs:?h α):?h α:=xs.take k++y::xs.drop k
inductive fU(x:V)(vs:?T)(H:Hp)(Q:VK):Prop
 | mk:∀(l:Addr) (xs:?T) (k:Nat) (y:V),(x=?g8)->(vs=[?e k,y])->(H l=?AS xs)->(k<=xs.length)->(xs.length<sizeLine)->(Q .non (?BM l (?A (insAt k y xs))))->?vD
noncomputable def RN:V->?g0:=fun x vs H Q=>?vD
theorem Uy:MtM X "list.insert" RN:=by
 intro Ac s σ H x vs v us Q I rx rv h;obtain⟨l,xs,k,y,rfl,rfl,hH,hk,hz,q⟩:=h;cases rx;obtain⟨u1,u2,rfl,r1,r2⟩:=Xo rv;obtain⟨t,rfl⟩:=r1;obtain⟨z,its,n,r,hl,e⟩:=I.lstM hH
 have hsl:((k:Nat):Int)<2 ^ 63:=by
  have h1:?AP k:=O9m
  have h2:sizeLine<=2 ^ 62:=?c9
  have h3:=qa6 h1 h2;omega
 have hfit:¬(!Builtin.List.listFitsIndex (k:Int))=true:=by
  rw[fitsIndex_both ?g hsl];exact qd3
 have hsz:?AP its.toArray.size:=by rw[qc1];omega
 obtain⟨ki,hki⟩:∃ki:Int,ki=(k:Int):=⟨_,rfl⟩
 rw[←hki]at hfit ⊢;have hm:=AutoSeq1.list_insert_list_int_val_1 l ?gH n ki t u2 hfit hsz;refine ?s2 F.slot_list_insert (?AD e) F.entry_list_insert (F.args_list_insert_3 _ _ _) hm ⟨e,?_⟩;refine⟨.non,_,I.lset (its':=insAt k u2 its) hH e ?_ ?_ ?_,rfl,q⟩
 . have hkl:k<=its.length:=O9m
   have hkn:ki.toNat=k:=O9m
   simp only[qc1,hkn];rw[?jE,Nat.min_eq_left hkl];apply Array.ext';simp only[insAt,Array.toList_append,Array.toList_push,Array.toList_extract,List.extract_eq_drop_take,List.drop_zero,qw3];rw[qw1,qi8 (i:=its.length-k) (by rw[qi6];omega)];rfl
 . exact(r.take k).append (?M r2 (r.drop k))
 . unfold insAt;rw[qc3,qd0,qc9,qi6];omega
structure Ap8(K:Frag)(D:Addr)(m:Str)(f:Addr):Prop where
 rd:readsIn K D (?y "type")=true
 fc:findCls K ?cV (?y "type") m=?c (.val (?f f))
 ga:specialIn K ?cV "__getattribute__"=?c (?c (?d0 "type.__getattribute__"))
 kp:W.keepIn K (?f f)=true
structure zF[?mV](K:Frag)[?mH](m:Str)[?mQ]:Prop where
 ex:∃(f:Addr) (fd:FuncData),Ap8 K C m f/\?k7
theorem SE[?zC]{x m:Str}{np apos pos:Pos}{e:Expr}{es:?Q}{t:TA}{pl:?oM}(h:?B2 zF)[?yP][?mX]
 [?z5] [?yH] (hpl:?iV (·.1)=false:=by rfl)
 (ht:?N (?zN (?bX x np) ?aX) ?i=(do
   let ov ←?N (?bX x np) ?i
   ?lD
   let ?iX ←?lC
   ?q7):=by rfl) :
 PE X (?zN (?bX x np) ?aX) (tCall sp [] E0 t):=by
 obtain⟨f,fd,B,hb,F⟩:=h.ex;ext iI;refine qo3 (pl:=pl) (Xe I hg hm ?_ hdb) ht;refine method_cls I.kIn B.ga (cls_value I.kIn B.rd B.fc rfl ?_);refine qq1 (h₀:=X.base) I.ok.mod.kin B.kp (Df (ha pos Ac _ σ H _ ?fY h) fun us s1 ⟨vs,H1,I1,r,q⟩=>⟨I1.kIn,?_⟩) hst hpl;exact bM F ?gA hb ?p EC I1 r q
universe e9
universe L2
namespace L2
open PySem PySem.Spec PyProof.Rows
section
variable[?b5][?U][?aE]
theorem Jp[?zI]{x:Value}[?a4][?yY](gx:vs[n]?=?bO)
 (k:∀h',?dH j t ?bH->?fI j ?s h'->Q x ?cZ):?w8:=by
 ext xG;simp only[qe6,gx];refine qa3 (?tD q1 q3 ?o (qb4 ⟨x,rfl,qb4 (k _ ?_ (Heap.SameBut.update ..))⟩));exact⟨_,Heap.get?_update_self _ q1 (Obj.isFreed_of_fields (?q2 q3 _)),(Obj.cls_mapFields ..).trans q2,by rw[?q2 q3];simp[rawInt]⟩
theorem Pk[?zI][?a4][?n0][?yY](gx:vs[n]?=none)
 (k:∀h' e,Heap.ExtBut j ?s h'->?r0):?w8:=by
 ext xG;simp only[qe6,gx];refine ?AF qv7 (qa3 (?tD q1 q3 ?o ?_));show ?zL (newExc (?y ?jN) []>>=_) _;refine ?c8;simp only[newExc,newTuple];refine qa3 (?rO);refine qa3 (m:=firstArgMember _ _) (wpAny_of_eq (a:=Value.none) (by first | rfl | (simp only[firstArgMember];rfl)) ?_);refine ?rO;simp only[raiseNew];refine ?AF wpAny_handled ?_
 first | rw[show A.in1.handled=none from hn] | rw[hn]
 refine ?AF qb4 (wpAny_throw ?_);exact k _ _ (((Heap.SameBut.update ..).extBut.push _).push _) (?AD ?bK)
theorem KH[?i7]{x y u v:Value}[?a4][?hZ]
 [?i0] [?zB]
 (k:∀h',?qY->?w0->?sE->?oE->?oR->?wP →
   ?f5->Q (?a8) ?cZ) :
 ?d ?r A (?BL z) (fun fin s'=>∃r,fin=.done (.ret r)/\Q r s') E s:=by
 ext z2;ext xH
 replace YL:?x5:=YL
 ext xN;refine qa3 (Jp (g1.extBut ?aI D.i1z) (e1.extBut ?aI D.l1z) gx fun k2 f1 w2=>?e3);have gb2:?x k2 b u v:=?eI _ _ D.TOi1 (?aI _ _ D.TOz gb);refine ?AI gb2;refine qa3 (?nU gb2 fun k3 gb3 w3=>?_)
 replace gb3:?x k3 b x v:=gb3
 refine ?AF ?nZ ?dN;refine ?AF qa3 (wpAny_onRaise ?_);show ?zL (?lS ?gV>>=_) _;refine qa3 (Jp (((g2.extBut ?aI D.i2z).extBut ?eI D.i12.symm).extBut ?bG ?wG) (((e2.extBut ?aI D.l2z).extBut ?eI D.l2i1).extBut ?bG D.l2TO) gy fun k4 f2 w4=>?e3);have gb4:?x k4 b x v:=?g3 _ _ D.TOi2 gb3;refine ?AI gb4;refine qa3 (?nU gb4 fun k5 gb5 w5=>?_)
 replace gb5:?x k5 b x y:=gb5
 refine ?AF ?nZ ?r5;refine ?AI gb5;refine ?AF wpAny_newTuple ?_;have sz:?B7 k5.objs.size:=by rw[w5.1,w4.1,w3.1,w2.1,w1.1]
 have gz5:?AH k5 ?f9:=?fT _ _ ?vA (?g3 _ _ D.i2z.symm (?bG _ _ ?vA (?eI _ _ ?u8 YL)));have kp:∀c o,c≠z->c≠b->c≠i1->c≠i2->?kF->k5.get? c=?m:=fun c o c1 c2 c3 c4 e=>?fT _ _ c2 (?g3 _ _ c4 (?bG _ _ c2 (?eI _ _ c3 (?aI _ _ c1 e))));have f15:?q9 i1 t1 ?bH:=((f1.extBut ?bG ?v9).extBut ?g3 D.i12).extBut ?fT ?v9;have f25:?q9 i2 t2 (m+1):=f2.extBut ?fT ?wG;have lz:z<k5.objs.size:=qb2 gz5;show ?zL (Builtin.SmallTypes.ownedTupleHandOut ?cT ?q4>>=_) _;refine ?c8;unfold Builtin.SmallTypes.ownedTupleHandOut;have gz6:?AH (k5.push { cls:=?eN,data:=?b4 #[x,y] }) ?f9:=?AE gz5;refine qa3 (qh7 gz6 ?o fun k7 gz7 w7=>?_)
 replace gz7:?AH k7 ?rF:=gz7
 refine qh7 gz7 ?o fun k8 gz8 w8=>?_
 replace gz8:?AH k8 ?rF:=gz8
 have up:∀c o,c≠z->k5.get? c=?m->k8.get? c=?m:=fun c o c1 e=>?sZ _ _ c1 (?uV _ _ c1 (?AE e));have gt:?x k8 ?l5 x y:=?sZ _ _ ?r1 (?uV _ _ ?r1 (?bK));have s8:k8.objs.size=k5.objs.size+1:=by rw[w8.1,w7.1,qi0]
 rw[sz]at gz8 gt s8;refine qb4 ?vH;show Q ?q4 _;rw[sz];exact k k8 gz8 (up _ _ D.TOz gb5) (f15.at fun o e=>up _ o D.i1z e) (f25.at fun o e=>up _ o D.i2z e) gt s8 fun c o c1 c2 c3 c4 e=>up c o c1 (kp c o c1 c2 c3 c4 e)
theorem MU[?i7]{u v:Value}{Q:PySem.Fin->?d5}[?n0][?hZ]
 [?i0] (gx:?wX)
 (k:∀h' e,?f5->?r0) :
 ?zM ?r (?BL z):=by
 ext z2;ext xH
 replace YL:?x5:=YL
 ext xN;refine qa3 (Pk hn (g1.extBut ?aI D.i1z) (e1.extBut ?aI D.l1z) gx fun k2 e w2 he=>?_);obtain⟨oe,ge,ce⟩:=he;have gz2:?AH k2 ?f9:=w2 _ _ ?u8 YL;have ne:e≠z:=fun q=>by subst q;rw[gz2]at ge;cases ge;simp at ce
 refine qh7 gz2 ?o fun k3 _ w3=>k k3 e (fun c o c1 _ c3 _ q=>?bG _ _ c1 (w2 _ _ c3 (?aI _ _ c1 q))) ⟨oe,?bG _ _ ne ge,ce⟩
theorem Yv[?i7]{x y u v:Value}[?mN][?hZ]
 [?i0] [?zB]
 (k:∀h',?qY->?w0->?sE->?oE->?oR->?wP →
   ?f5->Q (?c (?a8)) ?cZ):?nQ:=by
 ext yV
 unfold pyNext;exact ?zQ (KH D gz ga gb g1 g2 e1 e2 gx gy fun h' a1 a2 a3 a4 a5 a6 a7=>qb4 (k h' a1 a2 a3 a4 a5 a6 a7))
theorem j9[?i7]{u v:Value}[?mN][?n0][?hZ]
 [?i0] (gx:?wX)
 (k:∀h',?f5->Q none ?cZ):?nQ:=by
 ext yV
 unfold pyNext;refine ?zQ (MU hn D gz ga gb g1 g2 e1 e2 gx fun h' e kp he=>?_);obtain⟨o,q1,q2⟩:=he;exact qa3 (qu2 (T:=?jN) (b:=true) ⟨o,q1,q2⟩ isSubtype_stop (qb4 (k _ kp)))
universe e9
noncomputable abbrev zt1(h:Heap)(a:Addr):Heap:=h.push ?xA
noncomputable abbrev zt2[?iK]:Heap:=(zt1 h a).push { cls:=?y "tuple_iterator",data:=?b9 #[?F,?lR] }
noncomputable abbrev zt3[?iK]:Heap:=(?rQ).push { cls:=?eN,data:=?b4 #[?f ?nM,?f (zt1 h a).objs.size] }
noncomputable abbrev zt4[?iK]:Heap:=(?uM).push { cls:=?eN,data:=?b4 #[?w,?w] }
noncomputable abbrev WB[?iK]:Heap:=(zt4 h a b).push { cls:=?eJ,data:=?b9 #[?w,?kO,?kO,?f (?rQ).objs.size,?f (?uM).objs.size] }
theorem mU(a b:Addr)(xs ys:?cA):Meets (Builtin.«zip.__new__» ⟨[?eJ,?u,?F],[]⟩) (fun _ R s=>?sA/\?uE/\R (.ok (.ret (?f ?kS))) { s with heap:=?iR }) :=
 .of_wp fun prog w A R s h=>by
  obtain⟨hp,g,d,tk,os⟩:=s;obtain⟨h1,h2,h⟩:=h;have hsub:=sub_zip;have g1:?uJ (?rG ⟨hp,g,d,tk,os⟩) a xs:=h1;have g2:?uJ (?rG ⟨hp.push ?xA,g,d,tk,os⟩) b ys:=Heap.IsTuple.push h2 _
  wp_walk using qm0 g1,qm0 g2
  exact ?u3
section
variable[?b5][?U][?aE]
theorem MF{a b:Addr}{xs ys:?cA}[?a4](h1:?sA)(h2:?uE)
 (k:∀h',?a7 h' (?lF) (?j0) (?iN) ?w->?x h' (?j0) (?a8) (?f (?hB)) →
   ?x h' (?iN) ?w ?w->?dH ?l a 0->?dH (?hB) b 0->h'.objs.size=?vI →
   (∀c o,?s0)->Q (?f (?lF)) ?cZ):?zM ?r (?bC (?eJ) ?mA):=by
 refine callType_new F.called_zip ?Z (F.typeCall_zip_2 _ _) (F.newCall_zip_2 _ _) (fun obj=>F.args_object_init_3 obj _ _) F.entry_zip_new (mU a b xs ys) ⟨h1,h2,?_⟩;have z1:?oU=?hB:=qi0 ..;have z2:?vF=?j0:=by rw[qi0,z1]
 have z3:?wY=?iN:=by rw[qi0,z2]
 have z4:?kS=?lF:=by rw[qi0,z3]
 have z5:(?iR).objs.size=?vI:=by rw[qi0,z4]
 have q5:?dT ?kS=?dR:=?bK;have q4:?dT ?wY=?dR:=?v6;have q3:?dT ?vF=?dR:=?qV;have q2:?dT ?oU=?dR:=?w9;have q1:?dT ?l=?dR:=?AE (?w9);show _/\_;rw[z2,z3,z4]at q5;rw[z1,z2]at q3;rw[z3]at q4;rw[z1]at q2;rw[z4];exact⟨(?AD q5),k _ q5 q3 q4 ⟨_,q1,rfl,rfl⟩ ⟨_,q2,rfl,rfl⟩ z5 fun c o x=>?AE (qa5 _ (qa5 _ (qa5 _ (qa5 _ x))))⟩
universe e9
noncomputable def Ityp[?W](a b:Addr):It :=
 ⟨?BP ?f8 ?gC,
  ?zY ?f8 ?gC,
  fun i H=>∃xs ys,?f8/\?gC/\?uW⟩
theorem kI[?D][?y7] :
 Vo P w K ?g4 (Ityp K a b) ?cO z (?A5 ?qE ?qE) where
 mem:=?R
 obj:=fun i h st c hc=>by
  ext yD;ext i2
  . ext yC
  . ext yA
  . ext yB
  . ext yT
  . ext yU
 keep:=fun i h h' st k=>by
  ext xM
 item:=by
  ext aA;ext i9;obtain⟨xs,ys,x,y,Ww,lO,hx,hy⟩:=hg;ext yF;ext xW;refine Yv D hz hTI hTO h1 h2 (?BC ?aL a) (?BB ?aL b) (x:=u) (y:=v) (by simpa using hu) (by simpa using hv) ?nR;ext yI
  replace Oh:?uY:=Oh
  have kk:?rD:=fun c o hc e=>by
   ext i3;ext yZ
  ext y1;have hi1:?uS i1 a ?C:=?t0;have hi2:?uS i2 b ?C:=?tB;ext xI
  ext yE;refine(?BQ ?pV ?pV)
  . refine ?iW (s:=s) (h':=h3) (t':=s.toks) (H':=?hG) I (g':=s.gens) (d':=s.drawn) (ch:=?cO) (?b0) (?A6 ?cE) (?A6 ⟨o.slots,?cE⟩) (fun c o hc e n=>?_) (fun c o hc e=>⟨o,?cE⟩)
     (fun c zs e=>?hQ) (fun c o w' e=>?hQ) (?A9 e) ?gM (fun c w' e=>?_) ?cU
    . have f:=?gR;ext i5
    . rw[?x0];exact n
    . ext y4
    . by_cases hcs:?nS
      . ext xX
      . ext xS
        ext iE
        . exact ?rK
        . ext mO
  . have lb:?x9:=by
     ext xZ
     . exact ltz
     . exact qb2 hTI
     . exact qb2 hTO
     . exact qb2 q1
     . exact qb2 q2
    rw[Aj (qc7 lb)];exact(?gR).1
 done:=by
  ext aA;ext i9;obtain⟨xs,ys,Ww,lO,hx⟩:=hg;ext yF;have la:=ra.length;have lb:=rb.length;refine j9 ?cM D hz hTI hTO h1 h2 (?BC ?aL a) (?BB ?aL b) ?_ ?oY
  . simp;omega
  . ext i3;exact ?k2
 self:=?wA
inductive QK[?W][?mK]:Prop
 | mk:∀a b,?s1->((∃xs,Dl K H1 a xs))->((∃ys,Dl K H1 b ys))->(R (Ityp K a b) H1)->?o9
noncomputable def Aj0[?W](ta:TA):TI:=?A0 ?o9
theorem II:bootBuiltins ?aV=?c (?eJ):=?c9
theorem rX[?xL] :
 ?AG Aj0:=by
 subst hK;intro Ac s σ H R I h;refine Call_ (L1 I hg hm II (qg5 (Df (ha pos Ac s σ H _ I h) fun us s1 ⟨vs,H1,I1,r1,q1⟩=>?_) (by rw[hs,hs2]) (by rw[hs2];rfl)));obtain⟨la,lb,e,⟨xs,Ww⟩,⟨ys,lO⟩,q⟩:=q1;subst e;cases r1 with
 | cons ra rr =>
   cases rr with
   | cons rb rr =>
     cases rr;cases ra;cases rb;obtain⟨ia,_,pa,_⟩:=?nA Ww;obtain⟨ib,_,pb,_⟩:=?nA lO;have a1:?n5:=by obtain⟨_,e,_⟩:=pa;exact ?dM
     have a2:?rU:=by obtain⟨_,e,_⟩:=pb;exact ?dM
     refine MF (?BC ?qH la) (?BB ?qH lb) ?oB;refine ?zO kI
     have lc:?t9:=by
      ext i2
      . ext b7
      . ext b7
      . ext b7
      . exact ?eC
      . ext b7
     exact ?wD
section
variable{g:TG}{tc:TT}[?iC]
theorem mE[?aD]{a b:Addr}{xs ys:?T}{n:Nat}(hn:xs.length=n/\ys.length=n)[?z4](hl:∀i zs τ H,i<=n->?aT->?f8/\?gC)
 [?xK]
 [?mM]:?AL (Ityp K a b) tc:=by
 ext xQ
 . ext xJ
 . have e:i=n:=O9m
   ext yN
universe e9
section
variable{κ:Type}[?vS κ]
noncomputable def Ol[?eW]:?cI V:=(kvs.find? ?kH).map (·.2)
noncomputable def Nn[?eW](v:V):?cR :=
 if ?gU=true then ?aN (?zV (?B,v)) else kvs++[?aY]
noncomputable def Wb[?eW]:?cR:=kvs.filter fun kv=>?t (?B≠k)
theorem Xp[?zG](e:?I):?sP=?d8:=?wO
theorem Xq[?zG](e:¬?I):?sP=Ol r k:=?wO
theorem DN(k:κ):∀kvs:?cR,?gU=?sU
 | []=>rfl
 | p::r=>by
   rw[ql8];ext dA
   . simp only[Xp e,qf8 e,Bool.true_or,Option.isSome_some]
   . rw[Xq e,qj2 e,Bool.false_or];exact DN k r
theorem Pm[?eW](v:V):?oN<=kvs.length+1:=by
 unfold Nn;split
 . rw[qa4];omega
 . rw[qc3,qd0,ql5];omega
theorem M5.isSome_eq[?f1]{u:?dQ}(r:M5 o u):o.isSome=u.isSome:=by
 cases o with
 | none=>cases u with
   | none=>rfl
   | some _=>ext iD
 | some _=>cases u with
   | none=>ext iD
   | some _=>rfl
theorem M5.getD[?f1]{u:?dQ}{d:V}{d':Value}(r:M5 o u)(rd:?G d d'):?G (o.getD d) (u.getD d'):=by
 cases o with
 | none=>cases u with
   | none=>exact rd
   | some _=>ext iD
 | some _=>cases u with
   | none=>ext iD
   | some _=>exact r
theorem KV.val[?c3](k:κ):M5 (?aZ) (?hA):=by
 unfold KV at r
 induction r with
 | nil=>ext dB
 | @cons p q ps qs h t ih =>
   obtain⟨h1,h2⟩:=h;ext dA
   . have e':q.1=k:=?fH;have b:?tX=?c q.2:=?sN
     rw[Xp e,b];exact h2
   . ext mF;have b:?tX=?lQ qs k:=?sN
     rw[Xq e,b];exact ih
theorem KV.any[?c3](k:κ):?gU=?pP:=by
 unfold KV at r
 induction r with
 | nil=>rfl
 | cons h t ih=>rw[ql8,ql8,ih,h.1]
theorem KV.repl[?c3](k:κ)[?f0][?c5] :
 KV (?aN (?zV (?B,y))) (vs.map (?zV (?B,u))):=by
 unfold KV at r ⊢
 induction r with
 | nil=>exact ?p
 | @cons p q ps qs h t ih =>
   rw[qe0,qe0];refine ?t5;obtain⟨h1,h2⟩:=h;ext dA
   . rw[?eP,?vC];exact⟨h1,ry⟩
   . ext z1;exact ?kT
theorem KV.put[?c3](k:κ)[?f0][?c5]:KV (Nn kvs k y) (?jK vs k u):=by
 unfold Nn stored;rw[r.any k];by_cases e:(?pP)=true
 . rw[?eP,?eP];exact ?sC
 . rw[?fV,?fV];exact ?pU r ⟨rfl,ry⟩
theorem KV.drop[?c3](k:κ):KV (?gK) (without vs k):=by
 unfold KV at r ⊢;unfold Wb without
 induction r with
 | nil=>exact ?p
 | @cons p q ps qs h t ih =>
   obtain⟨h1,h2⟩:=h;rw[qm5,qm5];ext dA
   . have a:¬?tF:=?vY
     have b:¬?nO:=by simp[?fH]
     rw[?j a,?j b];exact ih
   . ext mF;have a:?tF:=?vY
     have b:?nO:=by simp[e']
     rw[?q a,?q b];exact ?M ?kT ih
theorem KV.keys[?c3]:?aN (·.1)=vs.map (·.1):=by
 unfold KV at r
 induction r with
 | nil=>rfl
 | cons h t ih=>rw[qe0,qe0,ih,h.1]
theorem KV.length[?c3]:kvs.length=vs.length:=?s8 r
theorem fB[?eW]:(?gK).length<=kvs.length:=qh9 _ _
universe e9
theorem kV_is[?D]{k:Key}{u:Value}(r:?k5):?pH:=by
 cases k with
 | inl i=>obtain⟨t,e⟩:=(show ?wQ from r);subst e;exact ES P w i t
 | inr x=>obtain⟨t,e⟩:=(show ?pZ from r);subst e;exact eS P w x t
theorem aO[?D]:∀{ks:?bY}{us:?fG},Vals (ks.map kV) us->ItemsAre ?bW ks us
 | [],_,r=>by rw[qt6]at r;cases r;exact ?p
 | k::ks,_,r=>by
   rw[qe0]at r;cases r with
   | cons h t=>exact ?M (?gD h) (aO t)
noncomputable abbrev KT(H:Hp):?dS->?l2->Prop:=Paired fun p q=>p.1=q.1/\H q.2.1=?c (?z (p.1.map kV))/\?G p.2 q.2.2
theorem KT.val{H:Hp}[?i4](k:?bY):M5 (?aZ) (?tE (·.2)):=by
 induction r with
 | nil=>ext dB
 | @cons p q ps qs h t ih =>
   obtain⟨h1,_,h2⟩:=h;ext dA
   . have e':q.1=k:=?fH;have b:?qT=?c q.2:=?uP
     rw[Xp e,b];exact h2
   . ext mF;have b:?qT=atKey qs k:=?uP
     rw[Xq e,b];exact ih
theorem KT.repl{H:Hp}[?i4](k:?bY)[?f0][?c5] :
 KT H (?aN (?zV (?B,y))) (xs.map (putAt k u)):=by
 induction r with
 | nil=>exact ?p
 | @cons p q ps qs h t ih =>
   rw[qe0,qe0];refine ?t5;obtain⟨h1,h2,h3⟩:=h;unfold putAt;ext dA
   . rw[?eP,?vC];exact⟨h1,h2,ry⟩
   . ext z1;exact⟨h1,h2,h3⟩
theorem KT.put{H:Hp}[?i4](k:?bY){b:Addr}[?f0](hb:?jA)[?c5] :
 KT H (Nn kvs k y) (storedH xs k b u):=by
 have e:?gU=?nP:=by
  rw[DN,(r.val k).isSome_eq,Option.isSome_map]
 unfold Nn storedH;rw[e];by_cases q:?nP=true
 . rw[?q q,?q q];exact ?sC
 . rw[?j q,?j q];exact ?pU r ⟨rfl,hb,ry⟩
theorem KT.keeps{H H':Hp}[?i4](ht:∀b ys,H b=?c (?z ys)->H' b=?c (?z ys)):KT H' kvs xs :=
 Paired.mapP r fun _ _ z=>⟨z.1,ht _ _ z.2.1,z.2.2⟩
section
variable[?D]{H:Hp}{h:Heap}{a:Addr}
theorem US{u:HO}[?dC](e:Rd H a u):?AX u:=e.ok ok
theorem To[?P][?dC][?mW]:?oW :=
 show ?AX ?a3 from US ok e
theorem fC[?P][?dC][?d9]:?oW:=To ok (?L e)
theorem CA{ks:?bY}[?dC](e:H a=?c (?z (ks.map kV))):?qJ h ks a:=by
 obtain⟨_,its,r,o,h1,h2,_,n,h3⟩:=(show ?AX (?z (ks.map kV)) from ok a _ e)
 exact⟨o,?gH,n,h1,h2,h3,by simpa using aO r⟩
theorem FA{kvs:?dS}[?dC](e:?l0):?eU/\?bN ∧
 ?pL:=by
 obtain⟨z,y,xs,r,o,es,ep,h1,h2,h3,h4,h5⟩:=(show ?AX (.dT kvs) from US ok e)
 refine⟨z,y,xs,r,o,es,ep,h1,h2,h3,h4,fun x hx=>?_,h5⟩
 have all:∀{l:?dS}{m:?l2},KT H l m->∀x∈m,?qJ h x.1 x.2.1:=by
  intro l m q
  induction q with
  | nil=>intro x hx;exact nomatch hx
  | @cons p q ps qs hq t ih =>
    intro x hx;rcases qb9.mp hx with e | hx
    . subst e;exact CA ok (by rw[←hq.1];exact hq.2.1)
    . exact ih x hx
 exact all r x hx
theorem An5{kvs:?dS}[?dC](e:H a=?c (.dT kvs)):?eU/\?bN ∧
 ?pL:=FA ok (?L e)
universe e9
noncomputable def DGet(H:Hp)(a:Addr)(y:V)(r:?cI V):Prop :=
 (∃kvs k,?dW/\y=?aM/\r=?aZ)\/∃kvs k b,?l0/\y=?F/\?jA/\r=?aZ
noncomputable def ZH(H:Hp)(a:Addr)(y v:V)(H':Hp):Prop :=
 (∃kvs k,?gY/\y=?aM/\?u0/\H'=?BM a (.dK (?k4))) ∨
 ∃kvs k b,H a=?c (.dT kvs)/\y=?F/\?jA/\?u0/\H'=?BM a (.dT (?k4))
section
variable[?aB]{y v:V}{u r:Value}[?f1][?U]
theorem Bl.big[?n]:?A4 sysModules:=by
 have h:?A4 mainGlobals:=(I.mod.glob.keeps I.bk).lt;exact qt5 ?Z h
theorem mC[?a4][?mY][?n](g:DGet H a y (?aJ))[?c5](h:∀w' s',?lP->?q8) :
 ?zM ?aS (?kU ?a9 u):=by
 ext yR
 . subst ey;ext mG;obtain⟨w',hw,rw'⟩:=?j9 (v:=v) (o:=?hA) (by rw[l];exact ?bB);exact wpAny_getItem_of ?c7 ?qU hw (?tI)
 . ext y6;obtain⟨w',hw,rw'⟩:=?j9 (v:=v) (o:=?tE (·.2)) (by rw[l];exact ?bB);obtain⟨p,hp,hp2⟩:=qh5.mp hw;refine wpAny_getItem_heap (?AU hu) (?jO) dd hp ?_;rw[hp2];exact ?tI
theorem Ts{h':Heap}{t':Nat}{ob:HO}[?n](mu:Mut (H a))(hs:?fI a ?s h')(he:?oP)(new:?bA ?cN X.w (?BM a ob) h' a ob) :
 ?zR (?BM a ob) ?qF :=
 I.write (x:=a) (e:=a) mu (?L rfl) (fun b q hb z=>(hs.2 b hb).trans z) he new
theorem Ve[?D]{H':Hp}{h':Heap}[?P][?iH](z:?eU)(hd:?bN)(rel:?cX)(dd:?sB ?bW a vs) :
 ?bA P w H' h' a ?a3:=⟨z,hd,vs,rel,dd⟩
theorem lZ{H':Hp}[?mU][?mY][?n](g:ZH H a y v H')[?c5](rv:?G v r)(h:∀s',?sK->Q () s') :
 ?zM ?aS (setItem ?a9 u r):=by
 rcases g with⟨kvs,k,e,ey,l,eH⟩|⟨kvs,k,b,e,ey,eb,l,eH⟩
 . subst ey eH;ext iA;have hz:?AP vs.length:=?hJ
   ext yJ
   refine wpAny_setItem_pairs (hsz:=hz) ?c7 dd ?lW;ext mC
   exact Ts I ?fQ hs he (Ve hl hd (rel.put k rv) HW)
 . subst ey eH;cases (show u=?aO b from ry);obtain⟨z,hd,xs,rel,dd⟩:=An5 ?K e;have hz:?AP xs.length:=by rw[←?s8 rel];exact z
   ext yJ
   refine wpAny_setItem_heap (hsz:=hz) (?AU hu) (?jO) dd ?lW;obtain⟨q,es,ep,hq,h2,h3,h4,_,h5⟩:=HW;refine Ts I ?fQ hs ?nN ⟨hl,hd,_,(rel.put k eb rv).keeps fun c ys ec=>?_,q,es,ep,hq,h2,h3,h4,h5⟩;rw[Aj (Eu ec e (fun z=>nomatch z))];exact ec
universe e9
section
variable[?aB][?P]{k:Key}{u:Value}[?U]
theorem ZV[?mU][?n][?d9][?n1](l:?sU=true)(h:∀s',?rB->Q () s') :
 ?zM ?aS (delItem ?a9 u):=by
 ext iA
 refine wpAny_delItem_slot ?bZ ?Z ?vZ
  (?d7 ?vZ ?bZ PySem.F.entry_dict_delitem (PySem.F.args_dict_delitem_2 _ _) (meets_dict_delitem_pairs ?aF a ?c7) ⟨vs,dd,?hJ,by rw[←(?bB).isSome_eq];exact l,?lW⟩)
 ext mC
 ext y3
theorem An6{v:V}{more:?fG}[?a4][?n][?d9][?n1](l:?aZ=?aJ)(hm:more=[]\/∃x,more=[x])
 (h:∀w' s',?rB->?q8):?zM ?aS (?bC ?pG (?rI)):=by
 ext iA;obtain⟨w',hw,rw'⟩:=?j9 (v:=v) (o:=?hA) (by rw[←l];exact ?bB)
 have hp:?nD:=by
  cases k with
  | inl i=>ext yK
  | inr x=>ext yL
 have ha:argsOk ?uO ⟨?rI,[]⟩:=by
  rcases hm with q|⟨x,q⟩
  . subst q;exact PySem.F.args_dict_pop_2 _ _
  . subst q;exact ?nT
 refine ?d7 qt2 ?bZ ?tQ ha (meets_dict_pop_there ?aF a ?c7 more hm hp)
  ⟨vs,w',dd,?hJ,hw,fun h' HW hs=>h w' _ ?_ rw'⟩
 ext mC
 ext y3
theorem YT{r:Value}[?a4][?n][?d9][?n1](l:?rV)(h:∀s',?lP->Q r s') :
 ?zM ?aS (?bC ?pG ?r9):=by
 ext iA;have hn:?hA=none:=M5.none_of (by rw[←l];exact ?bB)
 have hp:?nD:=by
  cases k with
  | inl i=>ext yK
  | inr x=>ext yL
 exact ?d7 qt2 ?bZ ?tQ (?nT) (meets_dict_pop_default ?aF a ?c7 hd hp r) ⟨vs,dd,hn,h _ ?fY⟩
universe e9
noncomputable def NoSl(i:Expr):Prop:=∀ov iv,?tG i ?a2 ov iv=operate [ov,iv] (?kU ov iv)
theorem RC[?b5][?U][?aE]{env:Env}{value slice:Expr}{pos:Pos}{T id:String}[?a4]
 (hl:?s7 (?y T) "__getitem__"=pure (?c (?d0 id))) (hs:NoSl ?gO)
 (h:?d ?r A (?N ?b2 env) (fun o s₁=>?d ?r A (?N ?gO env) (fun i s₂=>s₂.TypeIs o T/\?d ?r A (?kU o i) Q E s₂) E s₁) E s) :
 ?zM ?r (?N (?kG ?b2 ?gO pos) env):=by
 refine Subscript_ (qj8 h (fun o s₁ h₁=>qj8 h₁ (fun i s₂ h₂=>?_) ?m8) ?m8);obtain⟨hT,h₂⟩:=h₂;unfold subscriptTail;refine ?c8;rw[getitemInPython_of_ne hT.not_modules];refine qa3 (wpAny_specialOf hT hl ?_)
 have fin:?d ?r A (?tG ?gO ?a2 o i) (fun r s₃=>?d ?r A (letTemporaryGo ?b2 o r>>=fun _=>pure r) Q E s₃) E s₂:=by
  rw[hs o i];exact wpAny_operating (qj8 h₂ (fun r s₃ h₃=>?AF wpAny_letTemporaryGo (qb4 h₃)) ?m8)
 first
  | exact qb4 (qa3 fin)
  | exact ?AF qb4 (qa3 fin)
  | exact qa3 fin
theorem fD[?aB]{y:V}[?f1][?n](g:?t1):?iZ:=by
 rcases g with⟨kvs,k,e,_,_⟩|⟨kvs,k,b,e,_,_,_⟩
 . obtain⟨_,_,vs,_,dd⟩:=?cP;exact dd.typeIs
 . obtain⟨_,_,xs,_,dd⟩:=?iS;exact dd.typeIs
inductive qG(Q:VK)(x:V)(y:V)(H2:Hp):Prop
 | mk:∀a v,(x=?u)->(DGet H2 a y (?aJ))->(Q v H2)->?u4
noncomputable def Ad1(td ty:TE):TE:=fun σ H Q=>td σ H fun x H1=>ty σ H1 fun y H2=>?u4
inductive qH(D:Ends)(σ:St)(v:V)(x:V)(y:V)(H3:Hp):Prop
 | mk:∀a H4,(x=?u)->(ZH H3 a y v H4)->(D.nx σ H4)->?uI
noncomputable def Ae0(td ty tv:TE):TS:=fun D σ H=>tv σ H fun v H1=>td σ H1 fun x H2=>ty σ H2 fun y H3=>?uI
section
variable{X:Cx}{o i e value:Expr}{pos pos' tpos:Pos}{td ty tv:TE}
theorem Qa[?mI](hi:?tL)(hs:NoSl i):PE X (?kG o i pos) (Ad1 td ty):=by
 ext iI;refine RC PySem.F.slot_dict_getitem.lookup hs (Df (?BK ho) fun u s1 ?sR=>Df (?zU hi) fun iv s2 _z=>?_);obtain⟨y,H2,I2,ry,a,v,ex,g,q2⟩:=_z;subst ex;obtain rfl:u=?aO a:=rx;exact⟨fD I2 g,mC hu I2 g ry fun w' s3 I3 rw'=>⟨v,H2,I3,rw',q2⟩⟩
theorem Xa[?mI](hi:?tL)(hv:?v1)(hs:?B3 ?oV) :
 PS X (.Assign [?oV] ?b2 pos) (Ae0 td ty tv):=by
 intro Ac s σ H D I h;refine wpAny_Assign_Subscript (Df (?BK hv) fun r s1 ⟨v,H1,I1,rv,q1⟩=>Df (?zU ho) fun u s2 ⟨x,H2,I2,rx,q2⟩=>Df (hi Ac s2 σ H2 _ I2 q2) fun iv s3 _z=>?_) hs;obtain⟨y,H3,I3,ry,a,H4,ex,g,q3⟩:=_z;subst ex;obtain rfl:u=?aO a:=rx;exact lZ hu I3 g ry rv fun s4 I4=>⟨σ,H4,I4,q3⟩
universe e9
theorem dk_empty[?D]{H:Hp}(h:Heap)(hb:sysModules<h.objs.size):?bA P w H (h.push ?pB) ?nM (?cD) :=
 ⟨?aK,?AR hb,[],?p,?nW h⟩
noncomputable def WL:TE:=fun _ H Q=>∀p,?S->Q ?aG (?BM p (?cD))
section
variable[?iM]
theorem Ix:PE X (.Dict [] [] pos) WL:=fun Ac s σ H Q I h =>
 wpAny_Dict_empty ⟨?a8,_,?fE (a:=s.heap.objs.size) (o:=?cD) (t':=s.toks) (fun _ _ q=>?AE q) ?a1 (dk_empty ?s I.big),rfl,h _ (?dK)⟩
universe e9
noncomputable def tPairs:?eO->St->Hp->(?pW)->Prop
 | [],_,H,Q=>Q [] H
 | (tk,tv)::r,σ,H,Q=>tk σ H fun x H1=>tv σ H1 fun y H2=>?iP r σ H2 fun ps H3=>Q (?wK) H3
noncomputable abbrev VV:?AJ V V->?AJ Value Value->Prop:=Paired fun p q=>?G p.1 q.1/\?G p.2 q.2
noncomputable def PPs(X:Cx)(pos:Pos)(keys:?jV)(values:?Q)(qX:?eO):Prop :=
 ∀(Ac:Bj) (s:Shared) (σ:St) (H:Hp) (Q:?pW),?vJ->?iP qX σ H Q →
   ?d ?aS X.A (evalPairs (pairTrees keys ?iT ?i pos)) (fun vs s'=>∃ps H',?sK/\VV ps vs/\Q ps H') X.xe s
theorem RT[?iM]:PPs X pos [] [] []:=fun Ac s σ H Q I h=>pairTrees_nil_walk ⟨[],H,I,?p,h⟩
theorem NO[?iM]{k v:Expr}{ks:?jV}{vs:?Q}{tk tv:TE}{qX:?eO}(hk:PE X k tk)(hv:PE X v tv)(hr:PPs X pos ks vs qX) :
 PPs X pos (?c k::ks) (v::vs) ((tk,tv)::qX):=fun Ac s σ H Q I h =>
 pairTrees_cons_walk (Df (?BK hk) fun u s1 ?sR=>Df (?zU hv) fun w2 s2 ?lK =>
  Df (hr Ac s2 σ H2 _ I2 q2) fun ws s3 ⟨ps,H3,I3,rel,q3⟩=>⟨?wK,H3,I3,?M ⟨rx,ry⟩ rel,q3⟩)
noncomputable def Ic(kvs more:?X):?X:=more.foldl (fun acc kv=>Nn acc ?B kv.2) kvs
theorem KV.merge:∀{more:?X}{rs:?hC}[?P][?iH],KV more rs->?cX->KV (?jZ) (merged vs rs):=by
 intro more rs kvs vs r;unfold KV at r
 induction r generalizing kvs vs with
 | nil=>intro q;exact q
 | @cons p q ps qs h t ih =>
   intro r0
   have e:KV ?gN (?jK vs q.1 q.2):=by
    have:=r0.put p.1 h.2;rw[←h.1];exact this
   exact ih e
theorem Lz:∀(more kvs:?X),(?jZ).length<=kvs.length+more.length
 | [],kvs=>by show kvs.length<=kvs.length+0;omega
 | p::r,kvs=>by
   have h1:=Lz r ?gN;have h2:=Pm kvs p.1 p.2;show(Ic ?gN r).length<=_;rw[qd0];omega
theorem Z0[?D]:∀[?P]{ws:?AJ Value Value},VV (?aN ?sJ) ws->∃rs,Carries ?bW ws rs/\KV kvs rs
 | [],_,r=>by rw[qt6]at r;cases r;exact⟨[],True.intro,?p⟩
 | p::kvs,_,r=>by
   rw[qe0]at r;cases r with
   | @cons a b as bs h t =>
     obtain⟨rs,c,q⟩:=Z0 (P:=P) (w:=w) t;obtain⟨b1,b2⟩:=b;exact⟨(p.1,b2)::rs,⟨?gD h.1,rfl,c⟩,?M ⟨rfl,h.2⟩ q⟩
noncomputable def Ad0(qX:?eO):TE:=fun σ H Q=>∀p,?S->?iP qX σ (?BM p (?cD)) fun ps H2=>H2 p=?c (?cD)/\∃kvs:?X,ps=?aN (?sJ)/\kvs.length<=15/\Q ?aG (?BF H2 p)
theorem SD[?iM]{keys:?jV}{values:?Q}{qX:?eO}(h:PPs X pos keys ?iT qX)(hall:keys.all (·.isSome)=true)(hl:keys.length=values.length)(h0:keys≠[])
 (h15:keys.length<=15):PE X (.Dict keys ?iT pos) (Ad0 qX):=by
 intro Ac s σ H Q I q;have hn:=?uZ (qa1 ?l);have I1:=?fE (a:=s.heap.objs.size) (o:=?cD) (h':=?fZ) (t':=s.toks) (fun _ _ q=>?AE q) ?a1 (dk_empty ?s I.big);refine wpAny_Dict_walk (knd:=?jR) hall hl h0 h15 (Df (h Ac _ σ _ _ I1 (q _ hn)) fun ws s2 _z=>?_);obtain⟨ps,H2,I2,rel,e,kvs,ep,lk,q2⟩:=_z;subst ep;obtain⟨rs,c,rk⟩:=Z0 (P:=X.prog) (w:=X.w) rel;obtain⟨z,hd,vs0,r0,dd⟩:=fC I2.hok e;cases r0;refine⟨rs,c,dd,fun h' HW hs=>⟨?a8,_,?_,rfl,q2⟩⟩
 have hz:?t2:=by
  have h1:=?qD;rw[ql5]at h1;rw[sizeLine_eq];omega
 have he:∃q,?dY ?l=?c q:=?sO
 exact Ts I2 ?fQ hs he (Ve hz hd (rk.merge ?p) HW)
structure M2(X:Cx)(o:Expr)(m:Str)(apos:Pos)(e f:Expr)(cpos:Pos):Prop where
 base:?m7 o m ?i (?hU)=?hU
 few:((?pR).all (fun x=>!x.1)&&(?lO ?bP (keywordEach [] ?i)).all (fun x=>x.1.isSome)
  && ?t ((?hM:?Q).length+([]:?v4).length+(if ([]:?v4).isEmpty then 0 else 1)<30))=true
 line:?o6
 trees:?pR=[?kK,(?a2,?N f ?i)]
noncomputable def IsD(H:Hp)(a:Addr):Prop:=(∃kvs,?dW)\/∃kvs,?l0
theorem oX[?aB][?n](d:IsD H a) :
 ?iZ/\(∀b,?aO a=?F->∃ob,?uD/\ob.dict=none)/\?bN:=by
 rcases d with⟨kvs,e⟩|⟨kvs,e⟩
 . obtain⟨_,hd,vs,_,dd⟩:=?cP;ext y2
 . obtain⟨_,hd,xs,_,dd⟩:=?iS;ext y2
section
variable[?aB]{y d:V}{u r:Value}[?f1][?U]
theorem yV[?a4][?mY][?n](g:?t1)[?c5](rd:?G d r)(h:∀w' s',?lP->?G (o.getD d) w'->Q w' s') :
 ?zM ?aS (?bC (?d0 "dict.get") ?r9):=by
 ext yR
 . subst ey;ext mG;refine ?d7 qt3 ?bZ ?xE (?BD _) (meets_dict_get_default ?aF a ?c7 hd r) ⟨_,?qU,?v3⟩;rw[l];exact(?bB).getD rd
 . ext y6;refine ?d7 qt3 ?bZ ?xE (?BD _) (meetsH_dict_get_default (?kL ?aF) a b hd r) ⟨?AU hu,k,xs,?jO,dd,?v3⟩;rw[l];exact(?bB).getD rd
universe e9
inductive ItDGet2(ty:TE)(tx:TE)(σ:St)(Q:VK)(x:V)(H1:Hp):Prop
 | mk:∀a,(x=?u)->(?pN)->(ty σ H1 fun y H2=>tx σ H2 fun z H3=>∃o,DGet H3 a y o/\Q (o.getD z) H3)->?o3
noncomputable def wM(td ty tx:TE):TE:=fun σ H Q=>?AZ ?o3
noncomputable def wL(td ty tx:TE):TE:=fun σ H Q=>td σ H fun x H1=>∃a,x=?u/\?pN/\ty σ H1 fun y H2=>tx σ H2 fun z H3=>∃kvs k,H3 a=?c ?a3/\y=?aM ∧
 (∀v,?aZ=?aJ->Q v (upd H3 a (.dK (?gK))))/\(?rV->Q z H3)
section
variable{X:Cx}{o e f:Expr}{apos cpos:Pos}{td ty tx:TE}
theorem S7[?mI](he:?oG)(hf:?vG)(m:M2 X o "get" ?Y e f ?bP):?AM "get" wM:=by
 ext iI;refine ?zT qt3 PySem.F.type_dict_get;ext xV
 refine qp1 rfl (qw2 (qo6 (Df (?zU he) fun iv s2 ?lK =>
  ?zX ⟨z,H3,I3,rz,ov,g,q3⟩)))
 exact yV hu I3 g ry rz fun w' s4 I4 rw'=>⟨_,H3,I4,rw',q3⟩
theorem NW(ho:?x1)(he:?oG)(hf:?vG)(m:M2 X o "pop" ?Y e f ?bP):?AM "pop" wL:=by
 ext iI;refine ?zT qt2 PySem.F.type_dict_pop;ext xV
 refine qp1 rfl (qw2 (qo6 (Df (?zU he) fun iv s2 ?lK =>
  ?zX ⟨z,H3,I3,rz,kvs,k,ea,ey,q3,q4⟩)))
 subst ey;cases l:Ol kvs k with
 | some v=>exact An6 I3 ea ry l (?aQ ⟨fv,rfl⟩) fun w' s4 I4 rw'=>⟨v,_,I4,rw',q3 v l⟩
 | none=>exact YT I3 ea ry l fun s4 I4=>⟨z,H3,I4,rz,q4 l⟩
universe e9
section
variable[?aB][?P][?U]
theorem pP[?a4][?n][?mW](h:∀p s',?S->?zR (?BM p ?a3) s'->Q ?aG s'):?zM ?aS (?bC ?hX ?dP):=by
 ext mG;refine kt_call_dict hd dd (?hJ) fun h' HW hs=>?_;refine h _ _ (?dK) (?fE (a:=s.heap.objs.size) (o:=?h7) (t':=s.toks) (fun b q hq=>?_) ?a1 (Ve z (?AR I.big) rel HW));exact(hs.2 b (qc7 (qb2 hq))).trans (?AE hq)
universe e9
section
variable[?aB][?f0][?U]
universe e9
section
variable{X:Cx}
universe e9
universe L2
namespace L2
open PySem PySem.Spec PyProof.Rows PySem.SeqAt
noncomputable def cK[?O]:?X:=?cG fun p=>(?fW,?E p.2)
noncomputable def lookI[?O](k:Int):?cI Int:=(ms.find? ?bR).map (·.2)
inductive Oj:?h ?hS->?aH->Prop
 | nil:Oj [] []
 | cons {e:DictEntry}{k v:Int}[?eY][?a5]{t t':Tok}:?tA->?pK->?t8->?e9->Oj ?aX (?aY::ms)
theorem Oj.length[?eY][?a5](h:?e9):es.length=ms.length:=by
 induction h with
 | nil=>rfl
 | cons _ _ _ _ ih=>simp[ih]
theorem Oj.get[?eY][?a5](h:?e9):∀{i:Nat}{e:DictEntry},es[i]?=?c e->∃k v t t',ms[i]?=?kI/\?tA/\?pK/\?t8:=by
 induction h with
 | nil=>intro i e q;simp at q
 | @cons e0 k v es ms t t' h1 h2 h3 _ ih =>
   intro i e q;cases i with
   | zero =>
     have:e0=e:=?c2
     subst this;exact⟨k,v,t,t',?R,h1,h2,h3⟩
   | succ i =>
     obtain⟨k',v',t1,t2,q1,q2⟩:=ih (i:=i) (e:=e) (?c2);exact⟨k',v',t1,t2,?rM,q2⟩
theorem Oj.find[?eY][?a5](h:?e9)(k:Int):es.findIdx? (fun e=>?bQ k e.key)=?vX ?bR:=by
 induction h with
 | nil=>rfl
 | @cons e0 k0 v es ms t t' h1 h2 h3 _ ih =>
   rw[qv3,qv3,h1,ih]
   have e:?bQ k (?e k0 t)=?t (k0=k):=by
    by_cases q:k0=k
    . subst q;ext eZ
    . simp[Value.isInt,q];try exact ?vU
   rw[e]
structure M6(h:Heap)(a:Addr)[?O]:Prop where
 ex:∃o es ep,h.get? a=?m/\o.ExactDict/\?j5/\?x8
 sys:?bN
 nd:(?cG (·.1)).Nodup
theorem M6.typeIs[?aE]{a:Addr}[?a5](x:?hD):?iZ:=let ⟨o,_,_,ho,hc,_⟩:=x.ex;⟨o,ho,hc.1⟩
theorem GZ[?a5]{k:Int}(h:?w4=none):?bI=none:=by
 unfold lookI;rw[List.findIdx?_eq_none_iff]at h;rw[List.find?_eq_none.mpr (fun p hp=>by have:=h p hp;simpa using this)];rfl
theorem gZ[?a5]{k:Int}{j:Nat}(h:?w4=?c j):∃v,ms[j]?=?kI/\?bI=?aJ:=by
 induction ms generalizing j with
 | nil=>simp at h
 | cons p ms ih =>
   rw[qv3]at h;by_cases q:?I
   . rw[qf8 q,?lZ]at h;cases h;refine⟨p.2,by simp[←q],?_⟩;unfold lookI;rw[List.find?_cons_of_pos (?c2)];rfl
   . rw[qj2 q,if_neg (by decide)]at h;cases h2:ms.findIdx? (fun p=>decide (p.1=k)) with
     | none=>rw[h2]at h;cases h
     | some j' =>
       rw[h2]at h;have e:j=j'+1:=by simpa using h.symm
       subst e;obtain⟨v,h3,h4⟩:=ih h2;refine⟨v,by simpa using h3,?_⟩;unfold lookI at h4 ⊢;rw[List.find?_cons_of_neg (?c2)];exact h4
theorem UD(fs:?jD)(p:?hS->Bool):?l3 p=fs.toList.findIdx? p:=by
 cases fs;simp
theorem Ai9[?b5][?U][?aE]{x y:Int}{t u:Tok}{Q:?vW}(h:Q (?t (x=y)) s):?zM ?r (eqBool ?w2 ?tC) :=
 (?h3).eqBool (by show ?bQ x ?w2=true;ext eZ) (by show ?bQ y ?tC=true;ext eZ) h
theorem xS[?b5]{es:?jD}[?a5](h:?x8):KeysOf (?h3) es:=by
 intro e he;obtain⟨i,hi,rfl⟩:=Array.mem_iff_getElem.mp he;obtain⟨k,v,t,t',_,h1,h2,_⟩:=h.get (i:=i) (e:=es[i]) (by simp[hi]);exact⟨k,by show ?bQ k _=true;rw[h1];ext eZ,h2⟩
theorem S0[?b5][?U][?aE]{id:String}[?zF]{Q:?vW}[?zA]
 (h:Q ?gP s):?zM ?r (?x3 id a b):=by
 obtain⟨oa,es,ep,hoa,_,hda,hea⟩:=ha.ex;obtain⟨ob,fs,QS,hob,_,hdb,heb⟩:=hb.ex;have la:es.size=ms.length:=by rw[←hea.length];simp
 have lb:fs.size=ns.length:=by rw[←heb.length];simp
 unfold Builtin.Dict.samePairs
 have sh:∀{c:Addr}[?mU],(c==sysModules)=false->Q () s->?zM ?r (Builtin.Dict.showsAll c):=fun {c Q} hc hq=>by
  unfold Builtin.Dict.showsAll;rw[?j (by rw[hc];exact qd3)];exact qb4 hq
 refine qa3 (sh ha.sys (qa3 (sh hb.sys ?_)));refine ?B0 qt1 (qa3 (qt1 hob hdb ?_));by_cases hl:ms.length=ns.length
 . rw[?j (by simp[la,lb,hl])];have e0:(?k3)=true:=?qZ
   rw[e0,Bool.true_and]at h;refine ?B0 wpAny_dictEpoch ?_;rw[Std.Legacy.Range.forIn_eq_forIn_range']
   refine qa3 (qj8 (wpAny_forIn_list _ (fun rest r s'=>s'=s/\r=(none,())/\∃i,rest=?j8 i (?qI) 1/\i<=ms.length/\∀p∈ms.take i,?H ns p.1=?d8)
    (fun r s'=>s'=s/\((r=(none,())/\(?A2 ns)=true)\/(r=(?c ?a2,())/\(?A2 ns)=false))) ?_ ?_ _ _ ⟨rfl,rfl,0,?_,?aK,?R⟩) (fun r s' hr=>?_) ?jS)
   . rintro i rest r s' ⟨rfl,rfl,i1,hr,hi,hd⟩
     have hlt:i1<ms.length:=by
      refine qi5 ?lJ;rw[show ?n7=0 by omega]at hr;cases hr
     rw[?BG ?n7 (i1+1),List.range'_succ]at hr;cases hr;have hie:i<es.size:=O9m
     obtain⟨k,v,t,t',hm,h1,h2,h3⟩:=hea.get (i:=i) (e:=es[i]) (by simp[hie])
     have hmi:ms[i]=?aY:=by
      rw[qa0 hlt]at hm;exact qc6 hm
     refine ?B0 qt1 ?_;rw[?sS hie];dsimp only;refine qa3 (qj8 (Q:=fun same s''=>s''=s'/\same=?t (?l6=?aJ)) (qm6 ?_) (fun same s'' hs=>?_) ?jS)
     . rw[h1,h2];refine qa3 (wpAny_dictFind_of (knd:=?h3) (k:=k) (show ?bQ k (?e k t)=true from by ext eZ) hob hdb (xS heb) ?_)
       have ef:(?l3 fun e=>(?h3).is k e.key)=ns.findIdx? ?bR:=by
        rw[←heb.find k];show ?l3 (fun e=>?bQ k e.key)=_;exact UD _ _
       rw[ef];cases hf:ns.findIdx? (fun p=>decide (p.1=k)) with
       | none =>
         dsimp only;refine qb4 ?j4;rw[GZ hf];rfl
       | some j =>
         obtain⟨v',hj,hl2⟩:=gZ hf;have hjn:j<ns.length:=(?dO hj).1;have hjf:j<fs.size:=O9m
         obtain⟨k2,v2,t2,t2',hm2,g1,g2,g3⟩:=heb.get (i:=j) (e:=fs[j]) (by simp[hjf]);rw[hj]at hm2;cases hm2;dsimp only;refine qa3 (qt1 hob hdb ?_);rw[?sS hjf];dsimp only;refine qm6 ?_;rw[h3,g3];refine Ai9 ?j4;rw[hl2];by_cases q:v=v'
         . subst q;simp
         . have q':¬v'=v:=?vU;simp[q,q']
     . obtain⟨rfl,hs⟩:=hs;by_cases q:?l6=?aJ
       . rw[qf8 q]at hs;subst hs;rw[?jI];refine ?B0 wpAny_dictEpoch ?_;rw[?j ?o];refine qb4 ⟨rfl,rfl,i+1,rfl,hlt,?uA⟩;rw[qf7,qa0 hlt,hmi]at hp;rcases ql2.mp hp with hp | hp
         . exact hd p hp
         . have:p=?aY:=by simpa using hp
           subst this;exact q
       . rw[qj2 q]at hs;subst hs;rw[?j1];refine qb4 ⟨rfl,?aQ ?j4⟩;rw[List.all_eq_false];exact⟨?aY,by rw[←hmi];exact qe4 hlt,?c2⟩
   . rintro r s' ⟨rfl,rfl,i,hr,hi,hd⟩
     have e1:i=ms.length:=by
      refine qi1 hi ?vQ;rw[?BG ?qI ?C,List.range'_succ]at hr;cases hr
     subst e1;rw[qd2]at hd;exact⟨rfl,?L ⟨rfl,qe1.mpr fun p hp=>qf8 (hd p hp)⟩⟩
   . simp[Std.Legacy.Range.size,la]
   . obtain⟨rfl,⟨rfl,e2⟩|⟨rfl,e2⟩⟩:=hr
     . rw[e2]at h;exact qb4 h
     . rw[e2]at h;exact qb4 h
 . rw[?q (by simp[la,lb];exact hl)];have e0:(?k3)=false:=?qZ
   rw[e0,Bool.false_and]at h;exact ?AF qv7 (qb4 h)
universe L2
namespace L2
open PySem PySem.Spec PyProof.Rows
section
variable[?b5][?U]
theorem bX:?s7 (?gQ) ?kJ=pure none:=am_miss_of_fast ?hH
theorem Y6[?aE]{a:Addr}{xs:?cA}{k:Nat}[?mN]
 (hx:?e0 a=?c { cls:=?gQ,data:=?b4 xs k }) (hA:?lE)
 (h:∀h' tk,(∀b o,?vE)->Q none ?fN) :
 ?zM ?r (getAttr? ?a9 ?kJ):=by
 obtain⟨hp,g,d,tk,os⟩:=s;have hT:∀tk',(⟨hp,g,d,tk',os⟩:Shared).TypeIs ?a9 ?jG:=fun _=>(?AD hx)
 have f1:=sub_AttributeError;have f3:=F.slot_list_getattribute.lookup;have f4:=F.slot_list_getattribute.bind ?a9;have f5:=am_list_getattr_none;unfold getAttr? getAttrBy? getAttrBy
 repeat (any_goals (first | assumption | exact hT _ | ((with_reducible show ?zL (?bC (Value.builtin "list.__getattribute__") _ _) _);refine ?s2 F.slot_list_getattribute (hT _) am_entry_list_getattribute (F.args_list_getattribute_2 _ _) (meets_getattribute_miss_list a xs k #[] ?kJ _ bX (?c9)) ⟨hx,hA,fun h' tk' e hx'=>?_⟩) | wp_step))
 obtain⟨t',u',he⟩:=hx'.there;show ?d _ _ (getattributeRaised _ _ _ _ _ _ _) _ _ _;unfold getattributeRaised
 repeat (any_goals (first | assumption | wp_step))
 exact h _ _ hx'.keeps
theorem Lc:plainId ?kZ=true:=?c9
theorem Wa:?sX table ?kZ=?c Builtin.«dict.update.loop»:=entryFor_of_fast ?hH
variable{KT:Type}[?vS KT]{knd:KeyKind prog w KT}
noncomputable def Ap9(d it:Addr)(h0 h:Heap):Prop:=∀b o,b≠d->b≠it->h0.get? b=?m->h.get? b=?m
theorem lX(hh:?lE){d it l:Addr}{items:?cA}{prs:?sG}(hl:prs.length=items.size)(ndi:d≠it)(nld:l≠d)(nli:l≠it){h0:Heap}(hL:h0.IsList l items)
 (hP:∀(i:Nat) (x:Value),?vP=?bO->∃(p:?p6) (t:Addr) (key:Value),?tM/\x=?e5/\t≠d/\t≠it/\h0.IsTuple t ?kW/\knd.is p.1 key=true) {R:Result->?d5} :
 ∀(n i:Nat) (s:Shared) (acc:?sG),prs.length-i=n->i<=prs.length->acc.length+n<=sizeLine->s.heap.DictOf knd d acc->s.heap.IsListIter it l i->Ap9 d it h0 ?s →
   (∀h' tk,?sB knd d (merged acc (?hE i))->Ap9 d it h0 h'->R (.ok (.ret ?w)) ?fN) →
   codeAny ?r A (?d0 ?kZ ⟨[?f d,?f it,?k1 i,?w],[]⟩) R s:=by
 intro n
 induction n with
 | zero =>
   ext xP
   have hx:?vP=none:=?jU
   ext z3;refine qa3 (wpAny_pyNext_list_end hh hit hLs hx fun h' he=>?_);show ?zL (Builtin.Dict.addKeywords d []>>=_) _;refine qa3 ?r5;have e:?hE i=[]:=?jU
   have k':=k h' s.toks (by rw[e];exact hd.extBut he ndi) fun b o n1 n2 q=>he b o n2 (hb b o n1 n2 q);exact k'
 | succ n ih =>
   ext xP
   have hlt:i<items.size:=O9m
   obtain⟨p,t,key,hp,ex,ntd,nti,hT,hkey⟩:=hP i ?xB (?mB);ext z3;refine qa3 (wpAny_pyNext_list_item hit hLs (x:=?xB) (?mB) fun h1 A59 hs1=>?_);rw[ex];have hT1:h1.IsTuple t ?kW:=let ?qR:=hT;⟨o,(hs1.2 t nti).trans (hb _ _ ntd nti ho),r⟩
   have hd1:?oD knd d acc:=hd.sameBut hs1 ndi;obtain⟨o,ho,hc,m,hdat⟩:=hT1;refine ?AF qm6 ?_;refine ?AF wpAny_tryCatch ?_;unfold Builtin.Dict.pairItems;refine qa3 (?tT (show((?w1:Shared).TypeIs (?e5) "tuple") from⟨o,ho,hc⟩) ?_);rw[?j1];refine qa3 (ql7 ho hdat ?dN);show ?zL (holding [key,p.2] (dictSet d key p.2)) _;refine qm6 (wpAny_dictSet_pairs (s:=?w1) hkey hd1 (fun h2 hd2 hs2=>?_) O9m);refine ?B5 _
   have e2:?hE i=p::?hE ?C:=by
    rw[List.drop_eq_getElem_cons ?g]
    congr 1
    rw[qa0 ?g]at hp;exact qc6 hp
   have hl2:=stored_length_le acc p.1 p.2;refine ih ?C { s with heap:=h2,toks:=s.toks+1 } (?jK acc p.1 p.2) O9m O9m O9m hd2 ?_ (fun b o' n1 n2 q=>?_) (fun h' tk hd' hb'=>k h' tk (by rw[e2];exact hd') hb')
   . obtain⟨oi,hoi,ri⟩:=A59;exact⟨oi,(hs2.2 it (?g7 ndi)).trans hoi,ri⟩
   . exact(hs2.2 b n1).trans ((hs1.2 b n2).trans (hb b o' n1 n2 q))
universe e9
theorem vals_pair{x y:V}{us:?fG}(r:Vals [x,y] us):∃a b,us=?e7/\?G x a/\?G y b:=by
 cases r with
 | cons h1 r =>
   cases r with
   | cons h2 r =>
     cases r;exact⟨_,_,rfl,h1,h2⟩
theorem ED[?D]{H:Hp}{h:Heap}(hok:?wB):∀[?zE],?vT->(?zW t) →
 ∃prs:?hC,KV kvs prs/\prs.length=ts.length/\∀(i:Nat) t,?h8->∃(p:?oI) (key:Value),?tM/\h.IsTuple t ?kW/\?kA p.1 key=true
 | [],[],_,_=>⟨[],?p,rfl,fun i t e=>?m3⟩
 | [],_::_,hl,_=>?sY
 | _::_,[],hl,_=>?sY
 | t::ts,kv::kvs,hl,hk=>by
   obtain⟨prs,h1,h2,h3⟩:=ED hok ts kvs (by simpa using hl) fun i t e=>by
    obtain⟨kv',e1,e2⟩:=hk ?C t ?fF;exact⟨kv',?e2,e2⟩
   obtain⟨kv',e1,e2⟩:=hk 0 t rfl;have e1':kv=kv':=?e2
   subst e1';obtain⟨_,its,rv,o,ho,hc,hdn,n,hd⟩:=hok t _ e2;obtain⟨a,b,rfl,ra,rb⟩:=vals_pair rv;refine⟨(kv.1,b)::prs,.cons ⟨rfl,rb⟩ h1,by simp[h2],fun i t' e=>?_⟩;cases i with
   | zero =>
     have:t=t':=?dL
     subst this;exact⟨(?B,b),a,rfl,⟨o,ho,hc,n,hd⟩,?gD ra⟩
   | succ i =>
     obtain⟨p,key,q1,q2,q3⟩:=h3 i t' ?fF;exact⟨p,key,?rM,q2,q3⟩
inductive kC[?mS]:Prop
 | mk:∀(p:Addr) [?zE],(xs=[?d1])->(H p=?AS (ts.map ?g6))->(?vT)->((?zW t))->(∀D,?g9->Q ?cV (?BF H D))->?x7
noncomputable def wU:?g0:=fun xs H Q=>?x7
theorem Z1{X:Cx}(hc:X.calm=true):E6 X ?hX wU:=by
 intro Ac s σ H xs us Q I r h;obtain⟨l,ts,kvs,rfl,hl,hlen,hk,q⟩:=h;obtain⟨u,rfl,ru⟩:=Sk r;cases ru;have hh:X.A.handled=none:=?vO;obtain⟨hz,its,n,rv,ho⟩:=?K l _ hl;rw[qa4]at hz;have hil:its.length=ts.length:=by rw[←rv.length,qa4]
 obtain⟨prs,hkv,hpl,hP⟩:=ED ?K ts kvs hlen hk
 have at_:∀(i:Nat) (x:Value),its.toArray[i]?=?bO->∃t,?h8/\x=?e5:=fun i x e=>by
  have e':its[i]?=?bO:=?dL
  have hlt:i<its.length:=(?dO e').1;have hb:ts[i]?=?c (ts[i]'(O9m)):=?m5
  obtain⟨u,hu,ru⟩:=rv.get (i:=i) (x:=?g6 (ts[i]'(O9m))) (by rw[qa9,hb];rfl);rw[e']at hu;cases hu;cases ru;exact(?AD hb)
 refine callType_codes (Q₁:=fun obj s₁=>obj=?a8/\s₁=?nB) PySem.F.kt_called_dict (PySem.F.kt_typeCall_dict_1 _) PySem.F.entry_dict_init (kt_code_dict_new _ ?qP) ?_;rintro obj s₁ ⟨rfl,rfl⟩;have hnew:(?fZ).DictOf ?aF ?l []:=?nW ?s;refine⟨?vN,PySem.F.args_dict_init_2 _ _,?_⟩;unfold Builtin.«dict.__init__»;refine ?c8;unfold Builtin.Dict.selfAndRest;refine qa3 (qv0 ?vN ?_);show ?zL (pure (?l,[?aO l])) _;refine ?e3;show ?zL (Builtin.Dict.updateFrom "dict.__init__" ?l (?g8) [] ?w) _;unfold Builtin.Dict.updateFrom;have ho1:(?fZ).get? l=?c { cls:=?gQ,data:=?b4 ?gH n }:=?AE ho;refine qa3 (?tT (show((?nB:Shared).TypeIs (?g8) ?jG) from(?AD ho1)) ?_);rw[?j1];refine qa3 (Y6 ho1 hh fun h1 tk hk1=>?_);rw[?q (show(none:?dQ).isNone=true from rfl)];refine ?AF qv7 ?_;have hl1:h1.IsList l ?gH:=⟨_,?nI,rfl,n,rfl⟩
 refine qa3 (qs9 hl1 ?_);refine ?B5 _;have lt0:?A4 l:=qb2 ho;have nD:∀b o,?fP->?o2:=fun b o e=>?r6;have up:∀b o,?fP->h1.get? b=?m:=fun b o e=>hk1 _ _ (?AE e);have nI:∀b o,?fP->b≠h1.objs.size:=fun b o e=>qc7 (qb2 (up b o e));obtain⟨oD,esD,epD,hoD,rD⟩:=id hnew;have Ec:?oD ?aF ?l []:=⟨oD,esD,epD,?oO,rD⟩
 have ndi:s.heap.objs.size≠h1.objs.size:=qc7 (qb2 (?oO))
 refine lX (knd:=?jR) (show X.A.in1.handled=none from hh) (prs:=prs) (items:=its.toArray) (l:=l) (d:=s.heap.objs.size) (it:=h1.objs.size) (h0:=h1.push { cls:=?y "list_iterator",data:=?b9 #[?g8,?lR] }) ?dE ndi (nD _ _ ho) (nI _ _ ho)
  ⟨_,?AE (?nI),rfl,n,rfl⟩ (fun i x e=>?_) prs.length 0 _ [] O9m O9m ?_ (Ec.push _) ?m9 (fun b o _ _ e=>e) (fun h' tk' hd' hb'=>?_)
 . obtain⟨t,e1,rfl⟩:=at_ i x e;obtain⟨p,key,e2,⟨o,ho',r'⟩,e4⟩:=hP i t e1;exact⟨p,t,key,e2,rfl,nD _ _ ho',nI _ _ ho',⟨o,?AE (up _ _ ho'),r'⟩,e4⟩
 . have e0:([]:?hC).length=0:=rfl;omega
 . refine⟨rfl,?a8,?BF H ?l,?_,rfl,q _ (?dK)⟩
   have hzz:?t2:=by
    have h1:=?qD;rw[ql5]at h1;omega
   refine ?fE (a:=s.heap.objs.size) (o:=.dK (?eS)) (t':=tk') (fun b o e=>hb' b o (nD _ _ e) (nI _ _ e) (?AE (up _ _ e))) ?a1 (Ve hzz (?AR I.big) (hkv.merge ?p) ?_);simpa using hd'
theorem Nr:∀(more kvs:?X),((?tH).map (·.1)).Nodup->?jZ=?tH
 | [],kvs,_=>by simp[Ic]
 | p::more,kvs,h=>by
   have hnot:(kvs.any fun kv=>?t (?B=p.1))=false:=by
    rw[List.any_eq_false];intro kv hkv hd;have e:?B=p.1:=by simpa using hd
    rw[qb5,qw0]at h;exact h.2.2 ?B (qk8 hkv) p.1 ?o e
   have e:?q1=?v5:=by
    unfold Nn;rw[?j (by rw[hnot];decide)]
   show Ic ?gN more=_;rw[e,Nr more (?v5) (by simpa using h)];simp
universe L2
namespace L2
open PySem PySem.Spec PyProof.Rows PySem.SeqAt
theorem Y0(a b:Addr)(ms ns:?aH):Meets (Builtin.«dict.__eq__» ?pY) (fun A R s=>?hD/\?qQ/\R (.ok (.ret (?gG ?gP))) s) :=
 Meets.of_wp fun prog w A R s hs=>by
  obtain⟨ha,hb,h⟩:=hs
  show ?d ?r A.in1 (do
   let (self,other) ←Builtin.Dict.dictSlotArgs ?kV ?pY
   if !(←isInstance other ?hX) then rule s!"dict.{?kV}.not-a-dict";return ←ret .notImplemented
   ret (?gG ((←?x3 s!"dict.{?kV}" (←?n8 self) (←?n8 other))==true))) _ _ s
  unfold Builtin.Dict.dictSlotArgs;refine ?AF qa3 (qv0 ?wC ?_);refine qa3 ?dN;refine ?e3;refine qa3 (qu2 (T:=?d4) (b:=true) ?wV isSubtype_dict_dict ?_);rw[?jI];refine ?AF qb4 (qa3 (qb4 (qa3 (S0 ha hb ?_))));have e:∀b:Bool,(b==true)=b:=?jL
  rw[e];exact qb4 ?u3
theorem RcAt.dicts{A:Around}[?aE][?zF][?zA](hu:A.units<cLine) :
 RcAt A s ?a9 (?F) ?gP:=fun prog w E Q h =>
 richCompare_meets_room (op:=.Eq) ?wC ?wV PySem.F.slot_dict_eq PySem.F.entry_dict_eq (PySem.F.args_dict_eq_2 _ _) (Y0 a b ms ns)
  ⟨ha,hb,show Value.bool ?gP≠Value.notImplemented/\_ from⟨(fun x=>nomatch x),h⟩⟩ hu
universe L2
namespace L2
open PySem PySem.Spec PyProof.Rows
section
variable[?aB][?P]
theorem Bl.freeze[?n][?d9]:∃o,?zR (?fB) s:=by
 obtain⟨z,y,vs,r,o,es,ep,ho,c⟩:=id (?tK);refine⟨o,?_⟩;have ne:∀b u,?fJ->u≠?h7->b≠a:=?p8
 have up:∀b u,?fJ->u≠?h7->upd H a (?eH) b=?eV:=?uU
 refine I.step (g':=s.gens) (t':=s.toks) (d':=s.drawn) (h':=s.heap) (H':=?fB) (ch:=[]) (fun _ q=>nomatch q) (fun b ob _ _ _ q _=>q) (fun b ob _ _ _ q _=>⟨?xC,q⟩) (fun b ob _ q n=>?qK) (fun b ob _ q=>⟨ob,q⟩)
  (fun b xs q=>?l4) (fun b ob u q=>?l4) (fun b ps q=>⟨#[],by rw[?l4];simp⟩) (fun m q=>q) (?tJ) ?cU
 by_cases hb:b=a
 . subst hb;rw[Ab]at q;cases q;exact⟨ho,(?s9).stay (fun _ _ _ q=>q) (fun c q=>?hI) ?kE⟩
 . rw[Aj hb]at q;ext xY
theorem Bl.thaw{o:Obj}[?n][?zJ](hb:?wH):?zR (?BM a ?a3) s:=by
 have ne:∀b u,?fJ->u≠?eH->b≠a:=?p8
 have up:∀b u,?fJ->u≠?eH->?sM=?eV:=?uU
 have no:∀b,H b=none->?sM=none:=fun b n=>?qK
 refine⟨I.ok,I.os,?cU,⟨I.base.keep,I.base.slot,fun b ob q n x=>no b (I.base.free b ob q n x),I.base.there,fun b xs q=>up b _ (I.base.tups b xs q) ?fA,fun b ob u q=>?_,fun b ps q=>?_⟩,I.loc,I.cell,no _ I.free,fun x c q=>no _ (I.freeC x c q),?uA,?tJ,I.len⟩
 . have hne:b≠a:=fun z=>hb ob u (z▸q);rw[Aj hne];exact ?wM b ob u q
 . obtain⟨m,q'⟩:=I.base.tbls b ps q;exact⟨m,up b _ q' ?fA⟩
 . obtain⟨p1,p2,p3⟩:=I.pin p hp;exact⟨p1,no _ p2,p3⟩
 . by_cases hba:b=a
   . subst hba;rw[Ab]at q;cases q;obtain⟨_,q'⟩:=?s9;exact q'.stay (fun _ _ _ q=>q) (fun c q=>?hI) ?kE
   . rw[Aj hba]at q;ext xY
theorem Bl.notfrz[?n][?d9]:?wH:=fun ob u q=>by
 have:=?wM a ob u q;rw[e]at this;cases this
theorem Bl.nodupK[?n][?mW]:(?aN (·.1)).Nodup:=by
 obtain⟨z,hd,vs,rel,o,es,ep,_,_,_,_,_,hn⟩:=?cP;rw[rel.keys];exact hn
universe e9
noncomputable def tFrz(t:TE):TE:=fun σ H Q=>t σ H Q\/∃(a:Addr) (kvs:?X),?gY/\((?aN (·.1)).Nodup->∀o:Obj,t σ (?fB) fun v H'=>?eK/\Q v ?eE)
noncomputable def Ay1(t:TS):TS:=fun D σ H=>t D σ H\/∃(a:Addr) (kvs:?X),?gY/\((?aN (·.1)).Nodup->∀o:Obj,t ⟨?AA D.nx,fun v H'=>?eK/\D.rt v ?eE,
 ?AA D.bk,?AA D.ct⟩ σ (?fB))
theorem nW{X:Cx}{e:Expr}{t:TE}(h:PE X e t):PE X e (tFrz t):=by
 intro Ac s σ H Q I hw;rcases hw with hw|⟨a,kvs,ea,hw⟩
 . exact h Ac s σ H Q I hw
 . obtain⟨o,I'⟩:=I.freeze ea;have hb:=I.notfrz ea;refine Df (h Ac s σ _ _ I' (hw (?oS (?L ea)) o)) fun u s' ⟨v,H',I2,r,e2,q⟩=>⟨v,_,?lU,r,q⟩
theorem Rw{X:Cx}{st:Stmt}{t:TS}(h:PS X st t):PS X st (Ay1 t):=by
 intro Ac s σ H D I hw;rcases hw with hw|⟨a,kvs,ea,hw⟩
 . exact h Ac s σ H D I hw
 . obtain⟨o,I'⟩:=I.freeze ea;have hb:=I.notfrz ea;refine Df (h Ac s σ _ _ I' (hw (I.nodupK (.inl ea)) o)) fun f s' hq=>?_;cases f with
   | next=>ext mD
   | brk=>ext mD
   | cont=>ext mD
   | ret u=>obtain⟨v,σ',H',I2,r,e2,q⟩:=hq;exact⟨v,σ',_,?lU,r,q⟩
theorem Vc[?aB][?P]{o:Obj}[?n][?zJ] :
 ?e0 a=?m/\?bN/\?eU/\∃vs es ep,?cX/\?j5/\es.size=kvs.length/\o.ExactDict/\s.heap.DictAt ?aF a vs ep:=by
 obtain⟨ho,z,y,vs,r,o',es,ep,ho',ex,hd,hk,hp,hn⟩:=?tK;rw[ho]at ho';cases ho';refine⟨ho,y,z,vs,es,ep,r,hd,?_,ex,⟨o,es,ho,ex,hd,hk,hp,hn⟩⟩;rw[r.length,←hp.length];simp
theorem KV.getV:∀[?P][?iH]{i:Nat}{k:Key}{v:V},?cX->?cY->∃u,vs[i]?=?c (k,u)/\?G v u
 | _,_,i,k,v,?p,e=>?m3
 | _,_,0,k,v,?M (b:=q) r t,e=>by
   simp only[qs0,Option.some.injEq]at e;subst e;obtain⟨k',u⟩:=q;have e1:k=k':=r.1;subst e1;exact⟨u,?R,r.2⟩
 | _,_,i+1,k,v,?M r t,e=>by
   obtain⟨u,e1,e2⟩:=KV.getV (i:=i) t ?fF;exact⟨u,?e2,e2⟩
theorem OW[?D]{k:Key}{u:Value}(h:?pH):?k5:=by
 rcases C8 h with⟨i,t,rfl,rfl⟩|⟨x,t,rfl,rfl⟩
 . exact ?oT
 . exact ?oT
noncomputable def ZD(d:Addr)(o:Obj):It :=
 ⟨?p2,
  fun i H x H'=>∃p k v,?S/\x=?d1/\H'=?lB/\?p3,
  ?sW⟩
theorem Wp[?b5][?U][?aE]{it d:Addr}{i n ep:Nat}{ok ov:Value}[?a4](hit:?p1 ?s it d i n ep ok ov)(h:Q ?e6 s):?zM ?r (pyIter ?e6):=by
 have hT:?jW ?e6 ?qX:=(?AD hit)
 refine wpAny_pyIter_slot hT qu4 (qk1 qu4 hT (entryFor_alias (id':="dict_keyiterator.__iter__") ?hH rfl (?c9) ?hH:?sX table "dict_itemiterator.__iter__"=?c Builtin.«dict_keyiterator.__iter__») ?_ (PySem.F.args_dict_itemiterator_iter_1 _));show ?zL (ret ?e6) s;exact qb4 ⟨_,rfl,?qX,_,hT,PySem.F.slot_dict_itemiterator_next.lookup,h⟩
theorem GB[?D][?aD]{tes:?Q}{x1:Nat}{tpos:Pos}[?yO] :
 Vo P w K (?BI tes) (?bD) ?aR it (fun i h=>∃ok ov,?p1 h it d i es.size ep ok ov) where
 mem:=?R
 obj:=fun i h st b hb=>by
  obtain⟨ok,ov,h1⟩:=st;ext mL
  subst z;exact⟨_,h1,?nG⟩
 keep:=fun i h h' st k=>by
  obtain⟨ok,ov,h1⟩:=st;exact⟨ok,ov,k it ?o _ h1⟩
 item:=by
  ext aA;ext mR;obtain⟨kvs,k,v,hz,hx⟩:=hg;ext i1;obtain⟨u,hu,ru⟩:=rel.getV hx;ext i6
  have fi:=?q3;have lti:?A4 it:=qb2 hit;have hfresh:?sF:=?dK;rw[hn]at hit;refine wpAny_pyNext_items_item hit hm hu fun key h' hkey hout htup hsz' hk=>?_;refine⟨_,rfl,wpAny_letOwnedTupleGo_items hout fun h3 hen Oh=>?_⟩
  replace Oh:?fI it h' h3:=Oh
  have kk:∀b ob,b ∉ ?aR->?uD->?fR b=?hT:=fun b ob n z=>by
   have n1:b≠it:=by simpa using n
   exact(?b1 b n1).trans (hk b ob n1 z)
  have TM:?AV key u:=(?b1 _ (qk0 lti)).trans htup;have j8:∀c ob,H c=?hT->c ∉ ?aR:=fun c ob e hm=>?uR
  have Tb:∀b ob,H b=?hT->?o2:=fun b ob z=>Ao z ?e8;refine⟨?a8,?uB,?_,rfl,⟨?l,k,v,?e8,rfl,rfl,?n4⟩,⟨_,_,by rw[hn];exact hen⟩,?d3⟩
  . refine ?iW (s:=s) (h':=h3) (t':=s.toks) (H':=?uB) I (g':=s.gens) (d':=s.drawn) (ch:=?aR) (?d3) (fun b ob _ _ hb z _=>?jC) (fun b ob _ _ hb z _=>⟨?xC,?jC⟩) (fun b ob hb z n=>?_) (fun b ob hb z=>⟨ob,?jC⟩)
     (fun b ys z=>?o0) (fun b ob w' z=>?o0) (fun b ps z=>⟨#[],by rw[Aj (Tb b _ z),z];simp⟩) ?gM (fun b w' z=>?_) ?cU
    . have f:=?fO;ext i5
    . rw[Aj (qc7 (qb2 z))];exact n
    . obtain⟨ob,es',QS,hob,r⟩:=hm;exact⟨ob,es',QS,?B9 ob hob,r⟩
    . by_cases hb:?B7 b
      . subst hb;rw[Ab]at z;cases z;exact⟨(?B6 2),[key,u],?M (OW hkey) (?M ru ?p),?uK⟩
      . rw[Aj hb]at z;refine(?K b w' z).stay (fun c y hc' q=>?_) (fun c q=>?wF) fun c ys q=>?wF
        ext iE
        . exact ?AC kk z
        . ext mO
  . ext mL
    subst z;rw[Aj (qc7 lti)];exact(?fO).1
 done:=by
  ext aA;ext mR;obtain⟨kvs,hz,hx⟩:=hg;ext i1;ext i6
  have hl2:=rel.length;rw[hn]at hit;exact wpAny_pyNext_items_end ?cM hit hm ?dE ?rW
 self:=fun _ _ _ _ _ st h=>by
  ext mR;exact Wp hit h
inductive KD(R:?j3)(x:V)(H1:Hp):Prop
 | mk:?AK ?bD ?o7
noncomputable def xZ(td:TE):TI:=fun σ H R=>?AZ ?o7
theorem Pb{X:Cx}{tes:?Q}{x1:Nat}{tpos apos cpos:Pos}{e:Expr}{td:TE}(he:?nF)
 (hbase:?m7 e "items" ?i (?eG)=?eG:=by rfl) (hline:?o6:=by rfl):PI X (?BI tes) (?J (?a0 e "items" ?Y) [] [] ?bP) (xZ td):=by
 intro Ac s σ H R I h;refine wpAny_Call_method0_late hbase hline (?uT);ext xT;refine⟨?d4,"dict.items",qr7,?s5,PySem.F.type_dict_items,⟨o,ho,exd.1⟩,fun b e=>by cases e;exact⟨o,ho,exd.2.1⟩,qp1 rfl (PySem.evalArgs_none ?_)⟩;refine ?d7 ?s5 hm.dictOf.typeIs PySem.F.entry_dict_items (PySem.F.args_dict_items_1 _) (meets_dict_items ?aF d hsys) ⟨⟨vs,hm.dictOf⟩,?_⟩;have I2:?zR H1 ?v2:=?rT;have hm2:=hm.push ?jB;refine wpAny_pyIter_items (s:=?v2) (v:=s1.heap.objs.size) (d:=d) ?m9 hm2 ?_;have hsz2:?n2=?r4:=qi0 ..;refine⟨_,[_],_,?bD,H1,rfl,?BO I2.kept ?t7,GB d _ o hd,⟨?w,?w,?_⟩,?d3,q⟩
 . rw[hsz,rel.length];exact ?bK
 . have z:b=?n2:=?cK
   subst z;ext z0
noncomputable def ZX(d:Addr)(o:Obj):It :=
 ⟨?p2,
  fun i H x H'=>H'=H/\∃k v,x=?aM/\?p3,
  ?sW⟩
theorem kJ[?D][?aD]{tg:Expr}[?yO] :
 Vo P w K tg (?cL) ?aR it (fun i h=>h.IsKeyIter it d i es.size ep) where
 mem:=?R
 obj:=fun i h st b hb=>by
  obtain⟨oi,h1,c1,d1⟩:=st;ext mL
  subst z;exact⟨oi,h1,?x6⟩
 keep:=fun i h h' st k=>st.at fun ob z=>k it ?o ob z
 item:=by
  ext aA;obtain⟨kvs,k,v,hz,hx⟩:=hg;ext i1;obtain⟨u,hu,ru⟩:=rel.getV hx;ext i6
  rw[hn]at st;refine wpAny_pyNext_dict_item st hm hu fun key h' hkey LO hs'=>?_;refine ?vH;obtain⟨oi,h1,c1,d1⟩:=id LO;refine EY h1 c1 d1 ?Z ⟨?aM,H,?_,OW hkey,⟨rfl,k,v,rfl,?n4⟩,by rw[hn];exact LO,?w5⟩;exact ?AB ?aR (fun b ob hb z=>(hs'.2 b ?fS).trans z)
 done:=by
  ext aA;obtain⟨kvs,hz,hx⟩:=hg;ext i1;ext i6
  have hl2:=rel.length;rw[hn]at st;exact wpAny_pyNext_dict_end ?cM st hm ?dE ?rW
 self:=fun _ _ _ _ _ st h=>wpAny_pyIter_keyiter st h
inductive QM(R:?j3)(x:V)(H1:Hp):Prop
 | mk:?AK ?cL ?tS
noncomputable def Aj4(td:TE):TI:=fun σ H R=>?AZ ?tS
theorem Xb{X:Cx}{tg e:Expr}{td:TE}(he:?nF):PI X tg e (Aj4 td):=by
 intro Ac s σ H R I h;refine ?uT;ext xT;refine wpAny_pyIter_dict hsys hm ?_;refine⟨_,[_],_,?cL,H1,rfl,?rT,kJ d _ o hd,?_,?d3,q⟩
 . rw[hsz,rel.length];exact ?m9
 . have z:b=s1.heap.objs.size:=?cK
   subst z;exact I1.fpOk ?a1 (?pJ ?a1)
section
variable{g:TG}{tc:TT}[?iC]
theorem Zu{d:Addr}{o:Obj}[?P][?z4](hl:∀i zs τ H,?gB->?aT->?eB)
 (hs:∀i k v zs τ H p,?cY->?aT->?S->g ?aG τ (?lB) ?rP)
 (hd:?BE ?k0):?AL (?bD) tc:=by
 refine⟨fun i m zs τ H=>m=kvs.length-i/\?gB/\?aT,?wT,?_⟩;rintro i m zs τ H ⟨rfl,hi,pp⟩;have q:=?r7;by_cases hlt:?qM
 . refine ?AT ?w6 ?u1;obtain⟨p,k,v,hp,rfl,rfl,y⟩:=y;exact hs i k v zs τ _ p (y kvs q) pp hp
 . have e:?k9:=O9m
   subst e;exact ?L ⟨?tY,?v0⟩
theorem Vd{d:Addr}{o:Obj}[?P][?y0]
 (hs:∀i k v σ H p,?cY->?aW->?S->g ?aG σ (?lB) ?g1) [?z7] :
 ∃W:?h5,?g2/\∀i m σ H,?fK →
   (?AO ?bD)\/(?zK ?bD ?bD):=by
 ext xO
 . ext xU;obtain⟨p,k,v,hp,rfl,rfl,y⟩:=y;exact hs i k v σ _ p (y kvs q) pp hp
 . have e:?k9:=O9m
   ext yS
theorem Tl{d:Addr}{o:Obj}[?P][?y0]
 (hs:∀i k v σ H,?cY->?aW->g (?aM) σ H ?g1) [?z7] :
 ∃W:?h5,?g2/\∀i m σ H,?fK →
   (?AO ?cL)\/(?zK ?cL ?cL):=by
 ext xO
 . ext xU;obtain⟨rfl,k,v,rfl,y⟩:=y;exact hs i k v σ _ (y kvs q) pp
 . have e:?k9:=O9m
   ext yS
universe e9
universe L2
namespace L2
open PySem PySem.Spec PyProof.Rows PySem.SeqAt
theorem oY[?D][?eY][?iH](hp:Pairs ?bW es vs):∀[?a5],(∀e∈es,∃k,?kA k e.key=true/\e.hash=(?jP).hash k)->KV ?eF vs->?e9:=by
 induction hp with
 | nil =>
   intro ms _ r;cases ms with
   | nil=>exact ?p
   | cons p ms=>cases r
 | @cons e kv es kvs h1 h2 _ ih =>
   intro ms hk r;cases ms with
   | nil=>cases r
   | cons p ms =>
     cases r with
     | cons r0 r1 =>
       obtain⟨k,v⟩:=kv;obtain⟨e1,t',e2⟩:=r0;have e1':?fW=k:=e1;subst e1';obtain⟨t,ek⟩:=(show ∃t,e.key=?vL p.1 t from OW h1)
       obtain⟨k',hk1,hk2⟩:=hk e (qe2 ..)
       have ek':k'=?fW:=by
        rw[ek]at hk1;rcases C8 hk1 with⟨i,t2,z1,z2⟩|⟨x,t2,z1,z2⟩
        . cases z2;exact z1
        . cases z2
       subst ek';obtain⟨p1,p2⟩:=p;exact ?M ek hk2 (h2.trans e2) (ih (fun e' he=>hk e' (qc5 _ he)) r1)
theorem Iz[?a5]:((cK ms).map (·.1)).Nodup↔(?cG (·.1)).Nodup:=by
 unfold cK List.Nodup;rw[ql3,qr1,qr1];constructor
 . intro h;exact h.imp fun {a b} n z=>n (by simp[z])
 . intro h;exact h.imp fun {a b} n z=>n (by simpa using z)
section
variable[?aB][?a5]
theorem Bl.nodupC[?n](e:?vV):(?cG (·.1)).Nodup:=Iz.mp (?oS e)
theorem Bl.idict[?n](e:?vV):?hD:=by
 obtain⟨z,hd,vs,rel,o,es,ep,ho,ex,hda,hk,hp,hn⟩:=?cP;exact⟨⟨o,es,ep,ho,ex,hda,oY hp (fun e he=>hk e (by simpa using he)) rel⟩,hd,I.nodupC e⟩
universe e9
noncomputable def sameC(ms ns:?aH):Bool:=?o8
section
variable{X:Cx}{n:Nat}[?aD]
inductive FT[?mS]:Prop
 | mk:∀a kvs,(xs=[?u,.ty ?d4])->(?dW)->(Q (?hP) H)->?sQ
noncomputable def rN:?g0:=fun xs H Q=>?sQ
theorem We:E6 X (?d0 "isinstance") rN:=by
 ext yQ;obtain⟨u,v,rfl,rx,rt⟩:=Xo r;cases rt;cases rx;obtain⟨z,hd,vs,rel,o,es,ep,ho,ex,_⟩:=?cP;exact PySem.IsiPair.dict_dict ho ex.1 ⟨?hP,H,I,rfl,q⟩
universe e9
universe L2
namespace L2
open PySem PySem.Spec PyProof.Rows
inductive KC[?mS]:Prop
 | mk:∀a kvs,(xs=?dP)->(?dW)->(∀p,?S->Q ?aG (?BM p ?a3))->?wN
noncomputable def WU:?g0:=fun xs H Q=>?wN
theorem Gq{X:Cx}:E6 X ?hX WU:=by
 ext yQ;obtain⟨u,rfl,rx⟩:=Sk r;cases rx;exact pP I e fun p s' hp I'=>⟨?d1,_,I',rfl,q p hp⟩
theorem u1{n c:Nat}(h:n+8<c):n+1<c:=O9m
noncomputable def Bu[?O](k:Int):Int:=(?bI).getD 0
noncomputable def putI[?O](k v:Int):?aH:=if (ms.any ?bR)=true then ?AY ?cG else ms++[?aY]
noncomputable def Hs[?O](k:Int):?aH:=ms.filter fun p=>?t (p.1≠k)
theorem yX[?O](k v:Int):Nn ?eF (?cF) (?E v)=cK (putI ms k v):=by
 unfold Nn putI cK
 have e:((?cG fun p=>?o1).any fun kv=>?t (?B=?cF))=(ms.any ?bR):=by
  rw[List.any_map]
  congr 1
  funext p
  simp
 rw[e];split
 . rw[ql3,ql3]
   congr 1
   funext p
   simp only[Function.comp];by_cases q:?I
   . simp[q]
   . have q':¬?wU=?cF:=fun z=>q (by simpa using z);simp[q]
 . simp
theorem uB[?O](k:Int):Wb ?eF (?cF)=cK ?nY:=by
 unfold Wb Hs cK;rw[List.filter_map]
 congr 1
 congr 1
 funext p
 simp
theorem iI[?O](k:Int):Ol ?eF (?cF)=?BA ?bI:=by
 unfold lookI cK Ol;rw[List.find?_map,Option.map_map,Option.map_map]
 have e:((fun p:?gT=>?t (p.1=?cF)) ∘ fun p:?fM=>?o1)=fun p:?fM=>?sV:=by
  funext p
  simp
 rw[e];rfl
theorem Xk[?O](k:Int):(?BA ?bI).getD (?E 0)=?E (Bu ms k):=by
 unfold Bu;cases ?bI<;>rfl
theorem Dd(p:?fM)[?O](k:Int):?H (p::ms) k=if ?I then ?d8 else ?bI:=by
 unfold lookI;by_cases q:?I
 . rw[List.find?_cons_of_pos (?c2),?q q];rfl
 . rw[List.find?_cons_of_neg (?c2),?j q]
theorem aK[?O](k v j:Int):?H (putI ms k v) j=if j=k then ?aJ else ?oZ:=by
 have hs:∀[?mT],?H (?AY ?bM) j=if j=k then(?kN).map (fun _=>v) else ?kN:=by
  intro ns
  induction ns with
  | nil=>simp[lookI]
  | cons p ns ih =>
    rw[qe0,Dd,Dd,ih];by_cases e1:?I
    . by_cases e2:j=k
      . simp[e1,e2]
      . have e3:¬k=j:=fun z=>e2 ?m1;simp[e1,e2,e3]
    . by_cases e2:j=k
      . simp[e1,e2]
      . simp[e1,e2]
 have hn:∀[?mT],(ns.any ?bR)=(?l6).isSome:=by
  intro ns
  induction ns with
  | nil=>rfl
  | cons p ns ih =>
    rw[ql8,Dd,ih];by_cases e1:?I<;>simp[e1]
 have ha:∀[?mT],?H (ns++[?aY]) j=(?kN).or (if k=j then ?aJ else none):=by
  intro ns
  induction ns with
  | nil=>simp[Dd,lookI]
  | cons p ns ih =>
    rw[List.cons_append,Dd,Dd,ih];by_cases e1:p.1=j<;>simp[e1]
 unfold putI;rw[hn];cases q:lookI ms k with
 | some z =>
   simp only[Option.isSome_some,if_true];rw[hs];ext c4
   . subst e;simp[q]
   . simp[e]
 | none =>
   simp only[Option.isSome_none,qq5,if_false];rw[ha];ext c4
   . subst e;simp[q]
   . have e':¬k=j:=?l1;simp[e,e']
theorem HA[?O](k j:Int):?H ?nY j=if j=k then none else ?oZ:=by
 unfold Hs
 induction ms with
 | nil=>simp[lookI]
 | cons p ms ih =>
   rw[qm5,Dd];by_cases e1:?I
   . rw[?j (?e2),ih];by_cases e2:j=k
     . simp[e2]
     . have e3:¬p.1=j:=fun z=>e2 (by rw[←z,e1]);simp[e2,e3]
   . rw[?q (?e2),Dd,ih];by_cases e2:j=k
     . subst e2;simp[e1]
     . simp[e2]
section
variable[?D][?aD]{mg:?e1}{base:Heap}
universe e9
section
variable{X:Cx}{x:Str}{ps:?gL}{j k:Nat}{sp:Sp}{p pos:Pos}{e:Expr}{es:?Q}{t:TA}
universe e9
noncomputable def uO(n:Nat):?bS:=?pQ fun ?fD=>(i:Int)
theorem BF(n:Nat):(uO n).length=n:=by simp[uO]
noncomputable def Itd(hi:Int)(n:Nat):It:=⟨fun i _=>i<n,fun i H x H'=>H'=H/\x=?lG,fun i _=>n<=i⟩
theorem Pa(a b:Int):?r3 a b ?v=if b<a then a-b else 0:=by
 unfold Builtin.Range.rangeSize;rw[?jI];split
 . show(a-b-1) / 1+1=a-b;rw[Int.ediv_one];omega
 . rfl
theorem GF{a b:Int}(ha:-(?h2)<=a)(ha':a<?h2)(hb:-(?h2)<=b)(hb':b<?h2):Builtin.Range.small a b ?v=true:=by
 unfold Builtin.Range.small;rw[Pa];simp only[Builtin.Range.rangeFitsLong,qc2,qp8,qo0,qv8];split<;>simp<;>omega
theorem kL[?D][?aD]{tg:Expr}(it:Addr)(hi:Int)(n:Nat):Vo P w K tg (?h1) ?aR it (fun i h=>?o5 h it (hi+?fD*?v) (?e4-?fD) ?v) where
 mem:=?R
 obj:=fun i h st b hb=>by
  have e:b=it:=?cK
  subst e
  exact⟨_,st,fun v z=>by
   have z':Data.fields _=Data.cell v:=z;cases z'⟩
 keep:=fun i h h' st k=>k it ?o _ st
 item:=by
  ext aA;ext yW;have W:=Walks.range (prog:=X.prog) (w:=X.w) ?cM it hi ?v n;refine W.item i s _ _ hg st fun v h' tk hv st' kk=>?_;obtain⟨t,rfl⟩:=hv;have I1:?zR H ?fN:=?sT (fun b o hb e=>kk b o ?fS e) f0 f1 f3 f4 f5;refine⟨_,rfl,EY (s:=?fN) (n:="range_iterator") st' rfl rfl ?Z ⟨?lG,H,I1,⟨t,?_⟩,?qP,st',?w5⟩⟩;rw[show hi+(i:Int)*?v=hi-i by omega]
 done:=by
  ext aA;ext yW;exact wpAny_pyNext_range_end ?cM st (by have:n<=i:=hg;omega) fun h' eb=>⟨rfl,?sT (t':=s.toks) (fun b o hb e=>eb b o hb e) f0 f1 f3 f4 f5⟩
 self:=fun _ _ _ _ _ st h=>wpAny_pyIter_rangeiter st h
inductive QN[?mK]:Prop
 | mk:∀(n:Nat),(vs=[?e ?bT,?e ?v,?e ?v])->(n<=1000000)->(R (Itd ?bT n) H1)->?tP
noncomputable def Aj6(ta:TA):TI:=?A0 ?tP
theorem RY{X:Cx}{tg:Expr}{a b c:Expr}{ta:TA}{p pos:Pos}(hg:Gl X ?dZ)(hm:?cW ?dZ=none)(ha:PA X ?jQ ta)(hs:?b3 ?jQ ?i=[?rC,?f4,?qL]:=by rfl)(hs2:?b3 [b,c] ?i=[?f4,?qL]:=by rfl) :
 PI X tg (?J (?bX ?dZ p) ?jQ [] pos) (Aj6 ta):=by
 intro Ac s σ H R I h;refine Call_ (L1 I hg hm boot_range (qg5 (Df (ha pos Ac s σ H _ I h) fun us s1 ⟨vs,H1,I1,r1,q1⟩=>?_) (by rw[hs,hs2]) (by rw[hs2];rfl)));obtain⟨n,e,hn,q⟩:=q1;subst e;cases r1 with
 | cons r rr =>
   cases rr with
   | cons r' rr =>
     cases rr with
     | cons r'' rr =>
     cases rr;obtain⟨t,rfl⟩:=r;obtain⟨t',rfl⟩:=r';obtain⟨t'',rfl⟩:=r'';refine call_range_3 ?Z ?_ (Or.inl (PyProof.noPylong_small O9m));refine wpAny_pyIter_range (IsRange.new ..) (GF O9m O9m O9m O9m) ?_;have I2:Bl X Ac σ H1 { s1 with heap:=?zZ t,toks:=s1.toks }:=?jH ?qA
     refine⟨?nC,[_],_,_,H1,rfl,
      ?BO I2.kept ?qA,kL _ ?bT n,?_,?d3,q⟩
     . have e1:?pC=?e4-1:=?R
       have e2:?e4-?j7=?r3 ?bT ?v ?v:=by rw[Pa];split<;>omega
       show ?o5 _ _ (?pC) (?e4-?j7) ?v;rw[e1,e2];exact ?bK
     . have e:b=?nC:=?cK
       subst e;ext z0
theorem PJ{hi:Int}[?z9][?zD]
 (hs:∀i σ H,i<n->?aW->g (?lG) σ H ?g1) [?zH] :
 ∃W:?h5,?g2/\∀i m σ H,?fK →
   (?AO ?h1)\/(?zK ?h1 ?h1):=by
 ext y9;rintro i m σ H ⟨hm,hi',hp⟩;by_cases hlt:i<n
 . refine ?aQ ⟨hlt,?bU,fun σ' H' h=>⟨n-?C,O9m,rfl,O9m,h⟩,?_⟩;rintro x H' ⟨rfl,rfl⟩;exact hs i σ _ hlt hp
 . refine .inl ⟨by show n<=i;omega,hd σ H (by have:i=n:=O9m
                                              subst this;exact hp)⟩
universe L2
namespace Lat
open Hb
noncomputable abbrev Mat:=?bJ
theorem Bi[?aP]{n:Nat}(h:∀k,k<n->f k=0):?aU=0:=by rw[Al h,P5]
theorem sumN_one[?aP]:∀{n j:Nat},j<n->(∀k,k<n->k≠j->f k=0)->?aU=f j
 | n+1,j,hj,h=>by
   show ?cJ=f j;by_cases e:j=n
   . subst e;rw[Bi fun k hk=>h k ?g ?g];omega
   . rw[?hW (n:=n) (j:=j) ?g ?sL,h n ?g (?l1)];omega
noncomputable def In(w n:Nat)(R:Mat)(v:?k):Prop:=∃x:?k,∀c,c<w->v c=?AN n
theorem In.row{w n:Nat}{R:Mat}{j:Nat}(hj:j<n):In w n R (R j):=⟨fun k=>if k=j then 1 else 0,fun c _=>by
 rw[Dc (fun k=>R k c) j n,?q hj]⟩
theorem In.zero(w n:Nat)(R:Mat):In w n R (?eA):=⟨?eA,fun c _=>by rw[Bi];intro k _;simp⟩
theorem In.mix[?z6](hv:?iY)(a b:Int):In w n R (fun c=>?u2):=by
 obtain⟨x,hx⟩:=hu;obtain⟨y,hy⟩:=hv;refine⟨fun k=>a*x k+b*y k,?b0⟩;show ?u2=_;rw[?gW,hy c hc,←Bg,←Bg,←C5];refine Al fun k _=>?_;rw[qs4,qf6,qf6]
theorem In.congr[?z6](h:∀c,c<w->u c=v c):?iY:=by
 obtain⟨x,hx⟩:=hu;exact⟨x,fun c hc=>by rw[←h c hc];exact ?gW⟩
structure Db(w r:Nat)(R:Mat)(t:?oJ):Prop where
 lt:∀j,j<r->t j<w
 inc:∀j k,j<k->k<r->t j<t k
 zero:∀j c,j<r->c<t j->R j c=0
 pos:∀j,j<r->0<?dJ
 red:∀k j,k<j->j<r->0<=R k ?dG/\R k ?dG<?dJ
theorem Db.mono[?iB]:∀j k,j<=k->k<r->t j<=t k:=fun j k h1 h2=>by
 rcases qg7 j k with z | z
 . exact qd8 (?eD j k z h2)
 . rw[show j=k by omega];exact ?eC
theorem Db.ge[?iB]:∀j,j<r->j<=t j
 | 0,_=>?aK
 | j+1,hj=>by
   have:=h.ge j O9m;have:=?eD j ?dX O9m hj;omega
theorem Db.lead[?iB]{v x:?k}(hx:∀c,c<w->v c=?u7) :
 ∀j,j<=r->(?u9)->(∀k,k<j->x k=0)/\(j<r->v ?dG=x j*?dJ):=by
 intro j
 induction j with
 | zero =>
   intro _ _;refine⟨fun k hk=>O9m,?pF⟩;rw[hx _ (h.lt 0 hr),?nJ];rw[?jM k _ hk (?eD 0 k ?g hk)];simp
 | succ j ih =>
   intro hj hv;obtain⟨h1,h2⟩:=ih O9m fun k hk=>hv k O9m
   have hxj:x j=0:=by
    have e:=h2 O9m;rw[hv j ?g]at e;rcases qp6.mp e.symm with z | z
    . exact z
    . have:=h.pos j O9m;omega
   have hall:∀k,k<j+1->x k=0:=fun k hk=>by
    by_cases e:k=j
    . rw[e];exact hxj
    . exact h1 k O9m
   refine⟨hall,?pF⟩;rw[hx _ (h.lt _ hr),?nJ];by_cases e:k<j+1
   . rw[hall k e];simp
   . rw[?jM k _ hk (?eD ?dX k ?g hk)];simp
theorem Db.only[?iB]{v:?k}(hv:?nV){j:Nat}(hj:j<r)(h0:?u9)(h1:v ?dG=?dJ)(h2:∀k,j<k->k<r->v ?cC=0):∀c,c<w->v c=R j c:=by
 obtain⟨x,hx⟩:=hv;obtain⟨a1,a2⟩:=h.lead hx j O9m h0
 have xj:x j=1:=by
  have e:=a2 hj;rw[h1]at e;have p:=h.pos j hj;have:(x j-1)*?dJ=0:=by rw[Int.sub_mul];omega
  rcases qp6.mp this with z | z<;>omega
 have rest:∀m,m<=r->∀k,j<k->k<m->x k=0:=by
  intro m
  induction m with
  | zero=>intro _ k _ hk;omega
  | succ m ih =>
    intro hm k hjk hk;by_cases e:k<m
    . exact ih O9m k hjk e
    have ek:k=m:=O9m
    subst ek;have hv2:=h2 k hjk O9m
    have e2:v ?cC=R j ?cC+?dV:=by
     rw[hx _ (h.lt k ?g)]
     have:Am (fun i=>x i*?jX) r=Am (fun i=>((if i=j then 1 else 0)*?jX)+((if i=k then 1 else 0)*(?dV))) r:=by
      refine Al ?xD;by_cases e1:i=j
      . subst e1;rw[xj,?lZ,?jE];simp
      . rw[?j e1];by_cases e3:i=k
        . subst e3;rw[?lZ];simp
        . rw[?j e3];by_cases e4:i<j
          . rw[a1 i e4];simp
          . by_cases e5:i<k
            . rw[ih ?g i ?g e5];simp
            . rw[?jM i _ hi (?eD k i ?g hi)];simp
     rw[this,C5,Dc (fun i=>?jX) j r,?q hj,Dc (fun _=>?dV) k r,?q ?g]
    rw[hv2]at e2;obtain⟨r0,r1⟩:=h.red j k hjk O9m;have p:=h.pos k O9m;rcases Int.lt_trichotomy (x k) 0 with z | z | z
    . have:?dV<=-1*?l9:=?vR;omega
    . exact z
    . have:1*?l9<=?dV:=?vR;omega
 intro c hc;rw[?gW,?hW hj ?qW,xj,qd5];by_cases e:k<j
 . rw[a1 k e];simp
 . rw[rest r ?a1 k ?g hk];simp
structure Ee(n w:Nat)(T T':Mat):Prop where
 fwd:∀i,i<n->In w n T (T' i)
 bwd:∀i,i<n->In w n T' (T i)
 st:∃r t,r<=n/\?kD/\?j2
theorem In.sub{w n r:Nat}{R:Mat}{v:?k}(h:?iY)(hr:r<=n)(hz:?B8 R):?nV:=by
 obtain⟨x,hx⟩:=h;refine⟨x,?b0⟩;rw[?gW]
 have:∀m,r<=m->m<=n->?AN m=?u7:=by
  intro m
  induction m with
  | zero=>intro h1 _;rw[show r=0 by omega]
  | succ m ih =>
    intro h1 h2;by_cases e:r=m+1
    . rw[e]
    . show Am _ m+x m*R m c=_;rw[ih ?g ?g,hz m c ?g ?g hc];simp
 exact this n hr ?a1
noncomputable def M7(n w k:Nat)(T:Mat):Prop:=k<=n/\k<=w/\(∀j,j<k->0<T j j)/\(∀j c,j<k->c<w->c≠j->T j c=0)/\(∀i j,i<n->j<k->i≠j->T i j=0)
theorem M7.flip{n w k:Nat}{T:Mat}(h:?jY):M7 w n k (fun i j=>T j i):=⟨h.2.1,h.1,h.2.2.1,fun j c hj hc hne=>h.2.2.2.2 c j hc hj hne,fun i j hi hj hne=>h.2.2.2.1 j i hj hi hne⟩
noncomputable def jW(n w k:Nat)(T:Mat):Prop:=?jY/\k<n/\k<w/\0<?bE/\∀c,c<w->c≠k->T k c=0
theorem Ee.keep{n w:Nat}{T T':Mat}(s:Ee n w T T'):∀{k:Nat},?jY->M7 n w k T'/\(∀j c,j<k->c<w->T' j c=T j c)/\∀r t,r<=n->?kD->(?j2)->k<=r/\∀j,j<k->t j=j:=by
 intro k
 induction k with
 | zero =>
   intro h;exact⟨⟨?aK,?aK,?oX,?wR,fun i j _ hj=>O9m⟩,?wR,fun r t _ _ _=>⟨?aK,?oX⟩⟩
 | succ k ih =>
   intro h;obtain⟨hn,hw,hp,hr,hc⟩:=h;obtain⟨c1,c2,c3⟩:=ih ⟨O9m,O9m,fun j hj=>?uC,fun j c hj=>hr j c O9m,fun i j hi hj=>hc i j hi O9m⟩
   have key:∀r t,r<=n->?kD->(?j2)->k<r/\t k=k/\(∀c,c<w->T' k c=T k c):=by
    intro r t HF hst hz;obtain⟨kr,ht⟩:=?s3;have hin:=(s.bwd k O9m).sub HF hz;obtain⟨x,hx⟩:=id hin;have v0:∀l,l<k->T k (t l)=0:=fun l hl=>by rw[ht l hl];exact hc k l O9m O9m O9m
    obtain⟨x0,_⟩:=?pA;have hpk:=hp k O9m
    have hlt:k<r:=by
     refine qi5 ?lJ
     have:?bE=0:=by
      rw[?n6];exact Bi fun l hl=>by rw[x0 l ?g];simp
     omega
    have htk:t k=k:=by
     have g:=hst.ge k hlt;refine qi1 ?vQ g
     have:?bE=0:=by
      rw[?n6];refine Bi fun l hl=>?_;by_cases e:l<k
      . rw[x0 l e];simp
      . rw[?uN l k hl (qb3 z (hst.mono k l ?g hl))];simp
     omega
    obtain⟨_,a2⟩:=?pA;have e1:=a2 hlt;rw[htk]at e1;have pk:=hst.pos k hlt;rw[htk]at pk;obtain⟨y,hy⟩:=s.fwd k O9m
    have e2:?fL=y k*?bE:=by
     rw[hy k ?g];exact ?hW O9m fun l hl hne=>by rw[hc l k hl ?g hne];simp
    have same:?bE=?fL:=by
     have d1:?fL∣ ?bE:=⟨x k,by rw[e1,qf4]⟩
     have d2:?bE∣ ?fL:=⟨y k,by rw[e2,qf4]⟩
     exact Int.le_antisymm (ql9 pk d2) (ql9 hpk d1)
    refine⟨hlt,htk,fun c hcw=>?_⟩;exact(hst.only hin hlt v0 (by rw[htk];exact same) (fun l hl1 hl2=>hr k (t l) O9m (hst.lt l hl2) (by have:=hst.inc k l hl1 hl2;omega)) c hcw).symm
   obtain⟨r,t,HF,hst,hz⟩:=s.st;obtain⟨k1,k2,k3⟩:=?sD;refine⟨⟨hn,hw,?m6,fun j c hj hcw hne=>?_,fun i j hi hj hne=>?_⟩,fun j c hj hcw=>?_,fun r t HF hst hz=>?_⟩
   . ext c4
     . subst e;rw[k3 j ?g];exact ?uC
     . exact c1.2.2.1 j O9m
   . ext c4
     . subst e;rw[?rY];exact hr j c O9m hcw hne
     . exact ?q5 j c O9m hcw hne
   . ext c4
     . subst e;by_cases e2:i<j
       . exact ?q5 i j e2 O9m O9m
       . by_cases e3:i<r
         . exact ?uN i j e3 (by have:=hst.inc j i O9m e3;omega)
         . exact hz i j O9m hi O9m
     . exact c1.2.2.2.2 i j hi O9m hne
   . ext c4
     . subst e;exact ?rY
     . exact c2 j c O9m hcw
   . obtain⟨a,b,_⟩:=?sD;obtain⟨_,ht⟩:=?s3;refine⟨a,?m6⟩;ext c4
     . rw[e];exact b
     . exact ht j O9m
end
mutual
#check(4,[?a,?b,(?kB),spot,if_neg,∀{t:?x},a,prodN,(?cL),Nat->Int,(i+1),addR,?e ?c,(t l),if_pos,?n rfl,(t j),2 ^ c,(?jU),.(by grind),2 ^ b,blendR,In.row,∀(t:?x),a,Nat->Nat,shrS,R j ?p,2 ^ π,(n+1),moveR,∀(R B:Mat),a,?n ?c,A.fdiv B,∀{n W w i:Nat}{G:?a2},a,this,(j+1),funext,(?bK),.(by split<;>omega),(c+1),(i-d),Ch ne,unit,Good,∀(hp:p<n)(hq:q<n)(ne:?c5),a,∀{f:?i},a,?e e1,D i j hi hj,?e z,T k k,(A p),2 ^ (2*π+1),h.pos,fun j hj=>?_,(t k),Nat->Prop,(?c7 t i ?bF),r<=j,(p+1),(by ext L),(s l),∀{G:?a2}{M B0 R B:Mat},a,.(by exact this),(i-?r),?n z,A p c,h.old,(R,B),(k+1),(?aH),C7 O9m,r<=i,R r c,.(by unfold moveR),∀(n w:Nat),a,.inr,h.zero,(t i),?A2 A,R p c,.inl,Bits,j<=i,?g f m,(i-(e+1)),sumN_one,.(by rw[?l]),∀(f:?i),a,∀{R B:Mat},a,Gk ne,t ?d,(A q),(f+d),r1.fdiv r2,H.hi,z.symm,.(by rw[this];simp),∀{n p q:Nat},a,∀(hp:p<n),a,(1:Int),?zU t d,spot<l,(π+1),i-d+1,(kt i),(?cB).natAbs,h.low,ih O9m,Part,qa8 _,(-q),(d+1),b+i+3+2*π,∀(H:?vB)(h:?vA),a,∀(a b c d:Int),a,∀(hs:spot<i),a,(?z).natAbs,(pb R t k ?dD).natAbs,put2,(-1),(?gY),(?y8 T ?p),T' k k,fun r c hr hc=>?_,T i c,(?cY),(s c),R' p ?p / ?z,hst.lt,(tr T),p≠q,addR_row_ne,insT,(0:Int),(by decide),R' p ?m,R l ?m,keep,?g f n,cS π i,r≠p,U k c,?e e2,(?w0),R j c,addS,qa1 _,(fun r c=>R r ?c1),(?f3),R i c,(?pA),?g f k,∀{kt t:?x}{hd:?i},a,∀(h:?qB),a,.(by refine qr5.mp ?p9),∀(bb:?wG),a,∀(R:Mat)(p q:Nat),a,∀{R0 B0 R B:Mat},a,∀(s:?dQ),a,kt j,?n e1,R ?cN (t ?cN),V r c,T k c,R j ?m,f<=j,?n e2,fun l h1 h2=>?_,downS,fun _ _ _=>rfl,spot<r,h.st.lt,r<=n,(Gm R p),(n-k),?g (?y8 T' ?p) r,S.same,Bw ?c,T r ?c1,k+m<i,Wn s r c,(?hB).1,(?h0),(r-1),(j-1),h.gc,fun j c hj hc=>?_,Mat × Mat,j=spot,fun c hc=>?_,hst.zero,Bw e,(?aJ).natAbs,?g ?bW i,?cO=0,A r c,(?bE),r<=w,Ru f ne,R ?d c,(?eJ),H.part.inc,fun k hk=>h k O9m,(?k7),∀(n W w i:Nat)(G:?a2),a,.(by rw[move_row];unfold mvI),.(by rw[←Bg,←Bg,←C5]),∀(h:?wX),a,.(by by_cases e:j=k),.(by by_cases e:j=p),.(by exact qj5 _ g0),r1-?b4*r2,ChainAt,x1*y2-x2*y1,(i+d),(?gJ),?C R i s,i≠j,(?oA),hst.ge,β+(π+2),fun j hj=>O9m,j<spot,R i x,pb R t k m,u ?M,h.st.inc,a m*U m c,?e e,(?fL).congr,Am f n,2 ^ δ,S1.same,?g ?fS j,b*f x,h.st.pos,k+1+m,(f+m),(n-1-k),(L+2),blend_row_p ne,(B4 A p u),(?lA),ih ?c,R r x,?g ?bW ?j,Z r c,Am (fun i=>Sj i*A i 0*?uV) ?B,fun _=>0,?e ne,2 ^ β,?gY<=i,2 ^ ?jQ,(t ?b3),?v hj,?c7 t ?d st j,R' p c,h.red,absurd,M3 k k,?n e,(?gX),c<=?b1,?g ?fS i,A / g,h x y hx hy,T j c,2 ^ ?bD,(β+cM π i),∀(K:?rF)(h:?q0)(hi:?aI),a,∀{A B r1 x1 y1 r2 x2 y2:Int},a,∀{n w r:Nat}{E:Nat}{e:Int},a,∀{R B:Mat}(h:?qQ),a,∀{R:Mat}(h:?zV b R),a,.(by rw[?E]),.(by refine qi5 ?iA),∀{C:?a2}{δ:Nat},a,.(by by_cases e:?dR),∀{n W w r i:Nat},a,∀{π b spot:Nat},a,∀(u v:?i),a,∀{i:Nat}{R:Mat},a,∀(h:?sU),a,M a ?p,?cI+1,fun c=>?u6,?cD*f n,?aP=0,fun j=>?hA,(?f0).natAbs,(m+d),(?lO),2 ^ Y,h.st.red,h.good.trans,?hJ j hj,2 ^ (j-f)*μ*?bG,2 ^ e,∀j,j<r->?hA∣e,?y4 ?cG m,(i+1+m),(u l),fun l=>?cB,?jU+d,fun k _=>?_,h r c hr hc,s2.bwd,(K:Int),Am (?hX) i,?y0 i j,h _ O9m,h1.2.2.2.1,fun a c=>?o6,Ii n w r e T,d<=i+1,T j j,?y t p f ?aE d,(f j),(tr M3),In.zero,fun _ _=>rfl,(?l8),?Z j O9m,(-(?y9 m (t ?cN))),hst.pos,base l h1 h2,A-?F*B,?rG*h,(by unfold cM;omega),Good.refl ..,(?c7 t ?d st),(?k P i j 1),?bN+spot*?bD,qe7 ?c9 O9m,Kr R t i ?aV,i+1-d,?g (?u3) m,h.inc,fun k=>B k a*?lQ,?zX ?d st,?y t p ?r ?aE d,?zU ?a3 d,?y6 e2,R k ?a1,(?l7),?e a1,Am f j,fun r l=>R r (AG t k c l),(?qZ),?d0*?eR,bb.2.1,fun z=>?_,h.st.zero,?y t p f s m,2 ^ (c+b),pT n B R a b,(qg2 ?iA),?g f ?gL,Am _ ?B,?g f' m,fun k hk=>?_,Wn s j c,?bJ R t f m,Shares,Kr R t i r,?n a1,?A*?bG,?zX r c,h.ker,fun l hl=>?_,(-(b*q)),lo<=n,.(by repeat (first | rw[?o] | rw[?fG] | rw[?e ne'])),.(by refine⟨?a0,?a0⟩),.(by rw[?l,?o]),.(by rw[?e y,?l]),.(by rw[?n y,?E]),∀(hz:∀c,c<?b1->?dX),a,∀{a b c d:Int}(h:a*d-b*c=1),a,∀{n w r:Nat}{e:Int}{T:Mat},a,∀(he:0<e)(h:?h8),a,∀{D:Nat}(hD:Oo m G M D),a,∀(vK:∀c,G c->c<W),a,∀{R:Mat}{p q r:Nat},a,∀(hi:i<n)(hs:s<=i),a,∀{n p:Nat}{A:Mat},a,∀{R B R' B':Mat},a,∀{n W w i m:Nat},a,∀{n W w lo:Nat},a,∀{s:?dQ},a,Am (fun j=>a j*U j c) m,?zW ?j R0,Al ?iJ,qe3 _ O9m,D j j hi hi,2 ^ (z-2),pT n B0 M a ?p,dW T s k,C4 e c,?yB i,fun d hd=>?_,?zU t 0,.(by rw[h,qd5]),(β+c),?g _ m,x m*U m c,Am (fun j=>(v ?p*?f0)*?oB) i,spot+1,?y t p f s d,h c hc,A a b*q b,Am (fun k=>a k*?y1 (U k)) m,T i d*X d j,M3 k l,Dv (?xZ l spot) (?xZ l i),Bi ?iS,sq.flip,r2≠0,∀l,?bC->l<i->?b1<t l,q.natAbs<=?A,fun z=>ne ?b6,h.s0.inc,fun j h1 h2=>O9m,2 ^ i*μ,.(by omega),(κ*D),P.zero,?g f ?B,.(show b+c+1=(c+b)+1 by omega),In.sum,?bT f i j x ?hC,s.1 j ?p,Ee n w T T',?g ?eI k,Ps hA hB,?e e4,qf4 ..,(?y9 ?dD c).natAbs,?y9 m ?m,?g ?bW r,?s2 n w T,R i (w+c),?C B i ?d,spot≠i,?n a2,?A2 (F6 A p),?e a2,.(by rw[eA];ext eD),?e x1,(?hZ).1,?hU<=r/\r<i,B.fdiv r2,?zR k,Am (fun k=>a k*?cG) m,(i-1-j),(?fU).natAbs,blendS ?d i x y z u ?aE,?cK i ?d ?bL ?aE,?mQ e2 e3,fun r l=>R r ?m,Am (fun k=>x k*?yR (U k)) m,D i i hi hi,.(by have:=h.pos;omega),t j<t k,h.st.s0,?yI zH r2,?g ?bW ?aF,?e x2,r=spot,?y6 y2,?dO r c hr hc,hx c hc,Int.mul_pos,(?yQ R),?n e3,R k ?p,?P e j j,Al ?wU,(?fL).mix,?z8 h.pv,?yB p,2 ^ (zz-2),?A3 ?d ?i3,(i-1-k),spot<=i,fun j hj hne=>?_,?y4 ?d2 m,?A2 (F6 A ?a5),?u R ?d i x y z u,h.back x hx,?y6 y1,2 ^ (j-?r)*μ*?t,fun y=>hne y.symm,fun j h1 h2=>?_,x.natAbs<=?A,?n hr,?y5 R' B',r1≠0,?P (?fC) i d,?Z k hk,(?eE).natAbs<r2.natAbs,2 ^ η,x2*r1+-x1*r2,h n O9m,⟨fun j k _=>?eT j k,fun j c _=>?iB j c,fun j _=>?f2 j,fun k j _=>?gO k j⟩,?g (fun l=>f (k+1+l)) ?f5,m8.zero,h.detsD,po x x1 x2,y.natAbs<=?A,f i / g,blend_row_ne,R0 r c,∀j,j<r->t j=j,h.good.rest,h.col0,fun j c hj=>O9m,h.partOf,∀k,k<n->0<f k,R1 r c,?A9 (?bB) m,fun r x hr hx=>?_,?yI ZY r2,hst.lead,fun r x=>?_,.(by have t2:?c7 t i ?bF i=kt i:=?qY),.(by have D:∀i j,i<n->j<n->?q9=?qJ:=h),.(by rw[?l,?l,?l]),∀(h:∀l,?bC->l<i->?qL),a,∀{x y z u:Int}(e:kG π (?wS) (?pJ) x y z u),a,∀{i:Nat}{T:Mat}(h:∀r c,r<i->r<c->T r c=0)(s:?x),a,∀(hG:∀r c,?d9->r<i->G c->?dV<=?t),a,∀(hq:∀k,k<i->(Kr R t i k).natAbs<?q)(hi:i<n),a,∀{C:?a2}{R:Mat}(h:Q9 n C δ b R),a,.(by rw[?cH,?l]),∀(hq:q<n){k:Int}(hk:?v0),a,∀{s:?dQ}(h:?xY β s),a,.(by rw[?sB]),∀(A B r1 x1 y1 r2 x2 y2:Int),a,∀(hn:i<n)(hp:p<=spot\/p=i),a,∀{T M3:Mat}(s:?uL),a,∀(P:?bJ R t ?r i),a,∀(p:Nat)(u:?i),a,∀(hA:0<A)(hB:B≠0),a,∀{b p spot μ:Nat},a,fun c=>?aC+k*A q c,?aD ?d _ ?h hs,?A6 ?pI,?g (fun l=>f (k+1+l)) ?dD,R1 l ?m,2 ^ (c+η),(y2*r1)*(-y1*r2),qg8 _ ?c,h3 r t HF hst hz,fun c=>?l4,∀j,j<i->G ?p,Kr R ?a3 i k,Q5 R t j ?l5 (t m),B4 A p ?b2,Int.dvd_add,?zX ?d c,(v ?p).natAbs,(?pO).natAbs,if c<w then T a c else 0,Ih ?j R t,?A6 (?jK),(β+?M),?u R p q a b c d,Q5 R t j ?l5 c,y.natAbs*?eY,fun i c a b d=>?iB i c b (by have:=h2 i a b;omega),c<w->T' i c=0,?B*cJ n,fun c=>- ?aC,(f k).natAbs,Int.mul_le_mul,h.st.st.red,Am (fun k=>f k+-1*g k) n,D i p hi hp,fun r c hr=>?sE,i<n->?oE,?zU t ?bM,Oo r (fun c=>c<w) T E,⟨O9m,?_⟩,fun j _ h=>O9m,x2.natAbs<=B.natAbs/\y2.natAbs<=A.natAbs,∀j,j<i->t j<W,(?gP g).trans,(x2*r1)*(-x1*r2),c<w->?bZ=0,jW n w k T,Db w r T t,∀j,j<i->0<?z,qj6 O9m m0,(?fE).natAbs,?zZ d ?bB,R1 ?N ?m,.(show n+1-1-k=n-k by omega),D j i hj hi,1*?aQ+k*R q c,m8.pos k ZN,M7 n w k M3,fun y=>?_,?k R p q k,h.st.good.rest,h.s.same,(?aM rfl),c<w->i<c->?bZ=0,b1.mono ?hN,(2*a).log2,R ?d ?m,?yQ T,R i (?b1),Int.mul_fdiv_add_fmod,∀r c,?cF->?qT,bb.1 r x hr hx,Dv O9m O9m _ _ _ _ c,?g ?fS k,r1.fmod r2,(pW ?h),.(by ext xM),?fH<=?fJ,pD n w R B i j,(?fN).natAbs,i<n->?oW,Good.add,D.s0.pos,?aN j c hj hc,Am (fun k=>B k a*R k b) n,?zF i,⟨O9m,O9m,?aR rfl,fun d h1 h2=>⟨h1,h2⟩⟩,.(fun c _=>by ext aK;rw[?cZ]),∀i c,i<n->r<=c->?oW,fun c _=>?_,hst.mono,hx k hkn,c<t j->?cJ=0,?A3 p ?aE,?zQ (R i) (B j),B q x*R q y,Do n W w i G M B0 t R B,∀j,j<r->u j=j,(?i)->(?i)->Int,c*R p k+d*R q k,fun j hj=>?fL,?H i O9m,pT n B R a ?p,Dv h1 h2,if i=j then 1 else 0,?g ?eI i,(R p ?m).natAbs<=μ*?bG,congrArg,qf1 (a*x) (k*y),?r0 j c hj hc,?A1 V r,Fe n w R B,Nat->?i,?v (R:=Gm R j) hj,R' r c=?aJ,?A1 (?h7) i,show(-0:Int)=0 from rfl,(r-k)*?f6,Jw n W w i G R B t π b,.(by unfold insT;ext iX),?C R i ?d,h.s0.zero,qi1 ?iF (m8.ge k ZN),?fU*v c+?bU*?jT,Am (?hX) ?eH,?u R p j a b c d,0<=?lQ/\?lQ<?z,h.s0.pos,.(by unfold mvI;split;omega;split;omega;ext L),Do n W w n G M B0 t R B,?yR p,q*(y2*y2),?y9 m ?a1,k*R q ?a7,?k R j q k,M7 n w k T,Qr n W w r kt hd M,2 ^ (2*π),.(by rw[G6,G6]),?A3 i ?hG,?yO d s,fun c hcw hne=>?_,?eF m i j f,B p x*R p y,s2.keep h1.flip,h.tab j h1 O9m,Int.ediv_nonneg,qb3 (h r x hr hx) (?hS),b*f j / g,Dv e1 e2,?pB i c ?h,tl _ ?h,Int.mul_neg_of_neg_of_pos,mvI i s r,(a*x+k*y).natAbs,Dv e e2 a b c d k,Jz f z hne,?eZ l _ ?c,?bH (j:=?f3) (l:=l) ?c ?c,Straight,(?yS ?eJ).congr,ChainTo m i f,h.step h2,zero j c hj hc,D q j hq hj,(?c2).natAbs,?Z j hj,r≠spot,?pB i _ ?h,Int.natAbs_mul_self,?y9 m ?c1,C4 O9m c,x.natAbs*?eY,hst.s0.low,?g f' l,Int.mul_neg_of_pos_of_neg,?z6 ?sK,R ?cN ?c1,(B i x).natAbs,fun c=>1*P i c+1*P j c,?dF j _ e,Db w r T' t,?r6 j hj,skip_prod,?f2 j hj,(?aQ).natAbs,2 ^ (π+b),Ih i R t,.(by rw[←hz2];exact qe8 _ _),?y t i ?r (?lX) ?aA,fun c _=>?vC,?iR j h1 h2,Int.neg_dvd.mpr,(?fB).natAbs,y2*r1+-y1*r2,∀i c,?aI->?pV,fun k hk=>O9m,(?v hq),hx j ?c,Am (fun j=>(Am (fun d=>?jZ) r-(?vP))*?fX) r,g3 q u hqw m8 OY,fun d _=>?_,∀spot,?lZ->Dj n W w i G R B t π b ?d R B,B4 A p ?X,R0 j ?p,.(by rw[qf5];omega),(?aP).natAbs,fun r c hr=>Bw O9m c,∀j,j<r->In w n T ?uS,.(by show ?c8<1;decide),D j j hj hj,On n W w i R B t (?hU) (?bB).1 (?bB).2,?g (fun k=>f ?aF) n,?zU ?a3 ?j,∀j c,j<i->?q7,.(by rw[h.a.e1,h.a.e2];grind),∀j,j<r->0<?hA,K.head i hi hn,i*(?cE+1),?yM w,?zZ ?bM ?mZ,fun _=>?c8,.(fun x=>by rw[h.rows,?l]),?dO c hc,fun k=>?v4,?P e j c,zC i t R,run d hd,⟨h1,fun j k a b=>?eT j k a O9m,fun j c a b=>?iB j c O9m b,fun j a=>?f2 j O9m,fun k j a b=>?gO k j a O9m⟩,show ?y0 i p from ?T,bd r c hr hc,qe3 _ r1p,?bT f i j x y,fdiv_small,c<w->?dX,a*u c+b*v c,B4 ?f8 q v,(?dY).natAbs,cJ n*B ^ n,⟨i-1,O9m⟩,Am (fun c=>y c*?m1) w,x.natAbs<?q,?k R i ?d ?bL,p*f x-q*f i,c j h1 O9m,t1 j ?c,MS.start,i<=a/\a<i+d,(qk6 ?_),?k B ?d i q,Vp n w T M3,∀m,m<d->?A9 s m=s,Af3 j hj e,?cC j c ?c,?aD j c O9m hji,qb7 _ ?aG,Int.lt_or_gt_of_ne,(?P e j),fun l h1 h2=>?z8 h,R' j c=?cJ,?A2 (F6 A i),?u R j q a b c d,jW n w k M3,e0.step (?F),.(show i=s by omega),k.natAbs<?q,B j a*?z,?g (?kH) m,.(by rw[qd5]),a*R p k+b*R q k,?P e l k,?A7 ?e2 ?t,fun l=>?d3,qj3 O9m O9m,fun k=>?qE,Dj n W w i G R0 B0 t π b ?d R B,Jw n W w i G R0 B0 t π b,.(by unfold Gm;rw[Bn];omega),?iM A B g a b,?A1 (?h7) m,.(show ?hU=?bE by omega),⟨1,by rw[z];omega⟩,ql1 _ gn,(?pH).natAbs,Db w r R t,?dK ?b3 ?fK,fun r c hr=>?_,(x / h).natAbs,y1.natAbs<=A.natAbs,M3 (u k) k,if i=j then e else 0,Int.natAbs,Am (fun k=>T c k*X k i) r,⟨x,fun _=>hx⟩,Nat->?dQ,Int.le_refl,ql0 O9m O9m,?aD l _ ?c h2,fun z=>hne ?b6,0<=?bZ/\?bZ<=e,q*(x2*x2),if p<i then p else p-1,h.hd j hj,hz c ?c,?H n ?h,∀i,i<r->?A4 e,k r c hr,Nat.mul_comm,∀m,m<=n->∃r,r<=m/\?yU m,0<=?cA/\?cA<?cB,Am (fun k=>X l k*U k i) ?gV,.(by rw[Int.neg_fmod_neg];omega),(?nZ).natAbs,∀l,l<i->G ?a7,?g ?bW m,x1.natAbs<=B.natAbs,.(by rw[eB];ext eD),?xY β ?aE,(?z6 ?p6),Gk ne a b c d k,?g ?bW ?bM,(?v O9m),∃r,?dB/\?yU n,fun r c hr hc=>qb3 ?dL (qe7 ?c9 hb),∀j,j<i->(B j a).natAbs<=2 ^ j*m,fun x hx=>?_,h _ _ ?a6 O9m,i<=a/\a<n,qw6 c β,R ?d (?b1),fun r c hr=>?pN,fun i hi=>?_,fun c=>?sD,.(fun c _=>by rw[Bw ne,Bn,Bn]),Fb n w r E e T,h.2 b hb O9m,.(by obtain⟨r0,r1⟩:=H.part.red ?d l ?K h1 h2;rw[←?nP,←?vW]at r1;rw[←?nP]at r0;have p:=?Z l h2),.(by have z:?z3 q:=fun w=>Fq hp hq ne ?wW),.(by obtain⟨g,hg⟩:=ihm O9m;exact⟨g*T m (t m),by show ?jR*T m (t m)=_;rw[hg,qf6]⟩),.(by show ?d0*?kP+?hI*R ?cN ?m=0),.(by have zb:?bN+?r*?bD=(?hR)+π+1:=?tC),.(by rw[show ?k0=0 from ?mL l k hl (qb3 z (m8.mono k l ?c hl))];simp),∀(hr:?dB)(hst:?sO)(hz:∀i c,?aI->?oN)(s2:Ee w n (tr T') ?hD),a,∀{x y z u:Int}(hx:x.natAbs<?gS)(hy:y.natAbs<?gS)(hz:z.natAbs<?gS)(hu:u.natAbs<?gS),a,.(by have e0:zH A B A 1 0 B 0 1:=?q1),.(by rcases h with h|⟨hB,e1,e2,e3,e4,e5,e6⟩|⟨hB,e1,e2,e3,e4,e5,e6⟩),.(by rw[Fq (p:=j) (q:=k) ?c hk hne ?q4,qf3];rw[Bn,Bw hne]),.(by have he:0<?dE:=Cy fun j hj=>?gQ),∀{i:Nat}{T V Z:Mat}(h:∀r c,r<i->c<i->?d1=Am (fun j=>T r j*Z j c) (r+1)),a,.(by have t1:∀j,j<i->?c7 t i ?bF j=t j:=fun j hj=>?n hj),∀(hc:?q3)(Lh:?tF),a,.(by have d:=H.hd l h2;rw[←?vW]at d;omega),.(by rw[e0,cL _ hk,?aW (j:=k) ?c ?m0]),.(by rw[←?O,←?O,←?O,←?O,z u,z v]at e0;omega),.(by intro _;exact⟨0,?cL,?eO,fun j _ hj=>O9m⟩),∀(h:∀l,f<=l->l<m->?qL),a,.(by intro hm;obtain⟨r,a,b,c⟩:=?bI;by_cases z:t m<w),.(by rw[?b0,Ir];have:R j k=(a*d-b*c)*R j k:=?jP),∀(h:?sU)(ht:?oT){v:?i}(hv:In W i R v),a,.(by rw[?aD ?d c ?h hs];exact H.rw ?d c hs hc),.(by refine qi1 a (qg2 ?p9);have:=c r ?h y),.(by exact ?zG x0),∀(hst:?oY)(hz:?t2),a,.(by show _=?kK*?W*_;rw[qf6]),.(by have:=?e4 j ?d ?K O9m hs;omega),∀(G:?a2)(M B0:Mat)(kt:?x)(hd:?i),a,∀(hp:p<lo)(hm:m<=lo)(hn:?iU)(hpf:p<f\/m<=p),a,∀(hp:p<lo)(hq:q<lo)(hn:?iU)(ne:?c5),a,∀(he:?pJ=q*?wS),a,∀(hE:?g ?eI r<=E),a,∀(h:?yI EuI r2),a,@(BB n W C δ ?a ?b),@(show ?a≠?b by omega),@((if ?a=?b then ?bA else 0)=0),@(det n (B4 A p ?a)),@(?a (if l<k then l else l+1)),@(∀l,?bC->l<i->(?u R ?d i x y z u ?a ?m).natAbs<=?Y*(?u R ?d i x y z u l ?m).natAbs),@(Am (fun k=>x k*?a) ?b),@(?Q n W w lo R B ?a ?b),@(?e (fun z=>?a ?b6)),@(fun m hm=>?a R O9m O9m ne ?b),@(fun j=>?a j ?b),@(Q5 R t k ?a ?b),@(Dj n W w i G R0 B0 t π b ?r ?a ?b),@(A (if r<?a then r else r+1) ?M),@(∀j,j<i->(?a).natAbs<=?b),@((det i ?a).natAbs<=?b),@(Am (fun l=>(T l ?aO*?dW)*(if d=l then 1 else 0)) ?a),@(fun d hd=>(?a d hd).mono ?hN),@(B4 (B4 R j (R ?I)) ?I (R ?a)),@(?a A B r2 x2 y2 (?eE) (x1-?b4*x2) (y1-?b4*y2)/\?mF),@(?a A B r1 x1 y1 ?b x2 y2),@(β+?a*(?j*(i+1+Y+2))),@(show ?a<i+1 by omega),@((if r<?a then r else r+1)=p),@(Am (fun k=>(if k<r then X k i else 0)*T c k) ?a),@(by rw[show ?a=(?b-2)+2 by omega,qd7];simp;try omega),@(Ob n i β c t R B ?a ?b),@(fun k c hk hc=>?a k c hk (by rw[?b k hk];exact hc)),@(fun r l=>?a r ?a7),@(Pz n w A ?a q),@(?v (R:=?a) hj),@(?oI (show A+1<=-(?F) by omega) ?a O9m O9m),@((∀j,j<r->t j<w)/\∀j,?a4->j<?a->w<=t j),@(fun j hj=>?a j O9m),@(?mL c k ?a (by have:=m8.inc k c O9m ?b;omega)),@(?e4 ?a (k-1) ?K O9m O9m),@(Ey ?a u v 1 1 ?b),@(by rw[qd7];exact qm4 ?a ?b),@(z7 n W w i G R B t b p ?d μ ?a R' B'),@(show ?a<=?b by omega),@(Dj n W w i G R0 B0 t π b ?r (?a).1 (?b).2),@(∀w:?i,det n (B4 (B4 A p w) ?a w)=0),@(mT W n R ?a),@(fun r c hr=>(?a r c hr).trans (?b r c hr)),@(fun c=>?a),@(?u R p q a b c d ?a k),@(?a l O9m h2),@(Cf n W w r ?j G M B0 kt hd ?a R2 B2),@(∀c,c<n->?aC=A ?a c),@(show 0<=-?a by omega),@(fun m hm=>?a ?b O9m),@(by have:=?pK ?a ?b;rw[qf4]at this;omega),@(?a R p q a b c d ?b),@(Cf n W w r ?a G M B0 kt hd t R B),@(Bi fun l hl=>by rw[?a l ?c];simp),@(Bi fun k hk=>by rw[x0 k ?a];simp),@(pT n ?a ?b a b=?iE),@(_*(if m<w then T m m else 0)=?a),@(T i d*(if c=d then e else 0)=?a),@(fun m hm=>(?a m hm).trans (?b m hm)),@(qa6 (Nat.log2_self_le O9m) ?a),@(fun a=>p a*Am (fun b=>?jX) ?a),@(T k ?aO*?a*(if d=k then ?b else 0)),@((if r<?a then ?dJ else ?dH)=_),@(dot n w ?a ?b),@(det i (eO V Z ?a)),@(Ey (B4 A q ?a) ?X ?b2 a b hp),@(?k ?hQ j i ?iT ?a),@(?d7 ?a i ?aE ?b),@(?aS n W ?a ?b),@(?Q n W w ?a ?b B0 R B),@(?C R i ?d ?a ?b),@(∀d,?fI->?xY ?fZ (?y t ?a ?r ?b d)),@(BB n W C δ (?yJ ?a) (?b)),@(?u B p q d (-c) (-b) ?a),@(?g (?y8 ?a j) ?b),@(det n ?a),@(?y t ?a ?r ?b ?aA),@(In n w ?c4 (?P ?a i)),@((?y8 T' ?a1) ?a=0),@(det i ?a),@((?a).natAbs<=?b),@(?A2 ?a=- ?A2 (B4 (B4 A p v) ?b u)),@(?y t ?N ?dZ ?a ?b)])
noncomputable def Vp[?aL](T M3:Mat):Prop:=∃T',?kJ/\Ee w n (fun i j=>T' j i) (fun i j=>M3 j i)
noncomputable def Straight[?aL](T:Mat):Prop:=∀i j,i<n->j<w->?eK->T i j=0
theorem Vp.next{n w k:Nat}[?nJ](h:?rE):?p8/\(?s2 n w M3\/?uX):=by
 obtain⟨T',s1,s2⟩:=s;obtain⟨h1,_,h3⟩:=s1.keep h;obtain⟨g1,_,g3⟩:=?rN;have hc:?p8:=g1.flip;refine⟨hc,?_⟩;obtain⟨r,t,HF,hst,hz⟩:=s1.st;obtain⟨q,u,hqw,m8,OY⟩:=s2.st;obtain⟨kr,ht⟩:=?nW;obtain⟨kq,hu⟩:=?t7;by_cases e:k<r
 . right;have p:=?hJ k e;have tw:=?c3 k e;have tk:k<=t k:=?eM k e;have hin:=(?h1 ?a1 tw).sub hqw OY;obtain⟨x,hx⟩:=id hin
   have v0:∀l,l<k->?A5 ?gW:=fun l hl=>by
    show T' ?gW ?a1=0;rw[hu l hl];exact ?h6 l ?a1 hl tw O9m
   obtain⟨x0,_⟩:=m8.lead hx k kq v0;have hkn:k<n:=O9m
   have ZN:k<q:=by
    ext g6
    have:T' k ?a1=0:=by
     show ?A5 k;rw[?q6];ext xO
    omega
   have huk:u k=k:=by
    refine ?r1
    have:T' k ?a1=0:=by
     show ?A5 k;rw[?q6];refine ?k2;by_cases e2:l<k
     . rw[x0 l e2];simp
     . show x l*?k0=0;ext x4
    omega
   have p2:=?p7;rw[huk]at p2;refine⟨hc,hkn,O9m,p2,?rK⟩;rcases qg7 c k with z | z
   . exact hc.2.2.2.2 k c hkn z O9m
   . by_cases e3:c<q
     . exact ?yW e3 e3
     . exact OY c k O9m hcw hkn
 . left;have T'0:∀i c,k<=i->?oN:=fun i c hi hin hcw=>hz i c O9m hin hcw;intro i j hi hj hne;rcases qg7 i k with z | z
   . exact hc.2.2.2.1 i j z hj (fun w=>hne w.symm)
   . obtain⟨y,hy⟩:=s2.fwd j hj;have:M3 i j=Am (fun l=>y l*T' i l) w:=hy i hi;rw[this];exact Bi fun l hl=>by rw[T'0 i l z hi hl];simp
theorem Vp.less{n w k:Nat}[?nJ](h:?oX):M7 n w ?aF M3\/(?uX/\?fQ∣ ?W/\?fQ<?W):=by
 obtain⟨hcl,hn,hw,hp,hr⟩:=h;have s0:=s;obtain⟨T',s1,s2⟩:=s;obtain⟨h1,_,h3⟩:=s1.keep hcl;obtain⟨r,t,HF,hst,hz⟩:=s1.st;obtain⟨kr,ht⟩:=?nW;have hin:=(s1.bwd k hn).sub HF hz;obtain⟨x,hx⟩:=id hin;have v0:∀l,l<k->T k ?m=0:=fun l hl=>by rw[ht l hl];exact hr l O9m O9m
 obtain⟨x0,a2⟩:=?n2 hx k kr v0
 have hlt:k<r:=by
  ext g6
  have:?W=0:=by
   rw[hx k hw];ext xO
  omega
 have htk:t k=k:=by
  refine qi1 ?iF (?eM k hlt)
  have:?W=0:=by
   rw[hx k hw];refine ?k2;by_cases e:l<k
   . rw[x0 l e];simp
   . rw[?dT l k hl (qb3 z (?q5 k l ?c hl))];simp
  omega
 have e1:=a2 hlt;rw[htk]at e1;have pk:=?hJ k hlt;rw[htk]at pk;have d1:?bX∣ ?W:=⟨x k,by rw[e1,qf4]⟩
 have le1:=ql9 hp d1
 have below:∀i,i<n->i≠k->T' i k=0:=fun i hi hne=>by
  rcases qg7 i k with z | z
  . exact ?h6 i k z hw O9m
  . by_cases e3:i<r
    . exact ?dT i k e3 (by have:=hst.inc k i O9m e3;omega)
    . exact hz i k O9m hi hw
 by_cases same:?bX=?W
 . left;have row:∀c,c<w->?d2=T' k c:=hst.only hin hlt v0 (by rw[htk];exact same.symm) (fun l hl1 hl2=>hr ?m (?c3 l hl2) (by have:=hst.inc k l hl1 hl2;omega))
   have cl':M7 n w ?aF T':=by
    refine⟨O9m,O9m,?a0,fun j c hj hcw hne=>?_,fun i j hi hj hne=>?_⟩
    . ext eB
      . subst e;exact pk
      . exact h1.2.2.1 j O9m
    . ext eB
      . subst e;rw[←row c hcw];exact hr c hcw hne
      . exact ?h6 j c O9m hcw hne
    . ext eB
      . subst e;exact below i hi hne
      . exact h1.2.2.2.2 i j hi O9m hne
   exact(s2.keep cl'.flip).1.flip
 . right;have lt1:?bX<?W:=O9m
   obtain⟨hc2,q2⟩:=s0.next hcl;obtain⟨g1,_,g3⟩:=?rN;obtain⟨q,u,hqw,m8,OY⟩:=s2.st;obtain⟨kq,hu⟩:=?t7;have A60:=(?h1 k hw).sub hqw OY;obtain⟨y,hy⟩:=id A60
   have w0:∀l,l<k->(?y8 T' k) ?gW=0:=fun l hl=>by
    show T' ?gW k=0;rw[hu l hl];exact ?h6 l k hl hw O9m
   obtain⟨y0,b2⟩:=m8.lead hy k kq w0;have hyk:?bX=Am (fun l=>y l*?k0) q:=hy k hn
   have ZN:k<q:=by
    ext g6
    have:?bX=0:=by
     rw[hyk];exact ?zG y0
    omega
   have huk:u k=k:=by
    refine ?r1
    have:?bX=0:=by
     rw[hyk];refine ?k2;by_cases e2:l<k
     . rw[y0 l e2];simp
     . ext x4
    omega
   have e3:T' (u k) k=y k*?vO:=b2 ZN;rw[huk]at e3;have p2:0<?vO:=?p7;rw[huk]at p2;have d2:?fQ∣ ?bX:=⟨y k,by rw[e3,qf4]⟩
   have le2:=ql9 pk d2;refine⟨⟨hc2,hn,hw,p2,?rK⟩,qv5 d2 d1,O9m⟩;rcases qg7 c k with z | z
   . exact hc2.2.2.2.2 k c hn z O9m
   . by_cases e4:c<q
     . exact ?yW e4 e4
     . exact OY c k O9m hcw hn
noncomputable def Sj(i:Nat):Int:=if i%2=0 then 1 else -1
theorem X6(i:Nat):Sj ?j=- Sj i:=by
 unfold Sj;by_cases h:i%2=0
 . rw[?l,?n h]
 . rw[?E,?e h];rfl
theorem W7(i:Nat):(Sj i).natAbs=1:=by unfold Sj;split<;>rfl
noncomputable def F6(A:Mat)(i:Nat):Mat:=fun r c=>?jM
noncomputable def det:Nat->Mat->Int
 | 0,_=>1
 | n+1,A=>?fE
theorem Da:∀{n:Nat}{A B:Mat},(∀r c,r<n->c<n->?dY=B r c)->?aP=?A2 B
 | 0,_,_,_=>rfl
 | n+1,A,B,h=>by
   refine ?lS;rw[h i 0 hi ?c,Da (n:=n) (A:=F6 A i) (B:=F6 B i)];intro r c hr hc;exact ?wP
noncomputable def B4(A:Mat)[?nL]:Mat:=fun r c=>if r=p then u c else ?dY
theorem Bn(A:Mat)[?nL](c:Nat):B4 A p u p c=u c:=?o
theorem Bw{A:Mat}{p r:Nat}{u:?i}(h:?cF)(c:Nat):B4 A p u r c=?dY:=?e h
theorem Tc{A:Mat}{p i:Nat}{u:?i}(h:i≠p):F6 ?f8 i=B4 (F6 A i) ?cI (?z6 ?eS):=by
 funext r c
 show(if ?yL i then ?eS else ?jM)=if r=?cI then ?eS else ?jM
 have e:(?yL i)↔(r=?cI):=by
  split<;>split<;>omega
 by_cases z:r=?cI
 . rw[?aB,?n (e.mpr z)]
 . rw[?V,?e fun w=>z (e.mp w)]
theorem Io{A:Mat}{p:Nat}{u:?i}:F6 ?f8 p=F6 A p:=by
 funext r c
 show(if ?yL p then ?eS else ?lV)=?lV;rw[?e ?a6]
theorem Ey:∀{n p:Nat} (A:Mat) [?gB] (a b:Int),p<n->?y1 ?gG=a*?A2 ?f8+b*?y1 v
 | n+1,p,A,u,v,a,b,hp=>by
   show ?iH=a*?iH+b*?iH;ext e9;refine ?lS;by_cases e:i=p
   . subst e;rw[Bn,Bn,Bn,Io,Io,Io]
     grind
   . rw[?dU,?dU,?dU,Tc e,Tc e,Tc e];rw[Ey (F6 A i) (?z6 ?eS) (fun c=>v ?M) a b ?a6]
     grind
theorem G6(A:Mat)(p:Nat):?tA=A:=by
 funext r c
 unfold B4;split
 . rename_i h;rw[h]
 . rfl
theorem Ch{A:Mat}{p q:Nat}(h:?c5)[?gB]:?u7=B4 (B4 A q v) p u:=by
 funext r c
 unfold B4;by_cases e:r=q
 . rw[?fR,?l,?fR]
 . rw[?eV,?eV]
theorem cN:∀[?j8],p+1<n->(?zA ?a5)->?gI
 | n+1,p,A,hp,h=>by
   show ?fE=0
   have same:?kW=?m2:=Da fun r c hr hc=>by
    show ?lV=A (if r<p+1 then r else r+1) ?M;by_cases e:r=p
    . subst e;rw[?l,?E];exact(?h5).symm
    . by_cases e2:r<p
      . rw[?d5,?E]
      . ext nD
   have two:?fE=Am (fun i=>((if i=p then 1 else 0)*(Sj p*A p 0*?kW))+((if i=p+1 then 1 else 0)*(Sj ?a5*A ?a5 0*?m2))) ?B:=by
    refine ?lS;by_cases e1:i=p
    . subst e1;rw[?o,?l];simp
    . by_cases e2:i=p+1
      . subst e2;ext iX;simp
      . rw[?T,?cH]
        have z:?uV=0:=by
         refine cN (p:=?w0) ?a6 ?dS;show A (if ?cI<i then ?cI else ?gF) ?M=A (if ?gF<i then ?gF else ?gF+1) ?M;by_cases e3:p<i
         . rw[?lP,?lP,?E];exact ?h5
         . rw[?e e3,?l,?l,show p-1+1=p by omega];exact ?h5
        rw[z];simp
   rw[two,C5,Dc (fun _=>Sj p*A p 0*?kW) p ?B,?E,Dc (fun _=>Sj ?a5*A ?a5 0*?m2) ?a5 ?B,?E];rw[X6,←same,←h 0 ?c]
   grind
theorem AV[?j8](hp:p+1<n)[?gB]:?A8 (B4 ?f8 ?a5 v) ?a5:=by
 have ne:p≠p+1:=O9m
 have z:?z3 ?a5:=fun w=>cN hp ?wW
 have e0:=z fun c=>1*u c+1*v c;rw[?yY (B4 A p _) hp,?O,?O,?yY (B4 A ?a5 u) ?c,?yY (B4 A ?a5 v) ?c]at e0;ext xG
theorem CK:∀(d:Nat) [?j8],p+d+1<n->(?zA (p+d+1))->?gI
 | 0,n,p,A,hp,h=>cN hp h
 | d+1,n,p,A,hp,h=>by
   have e:A=B4 (B4 A (p+d+1) (A (p+d+1))) (p+d+1+1) (A (p+d+1+1)):=?rH
   rw[e,AV ?c];rw[CK d (p:=p) ?c ?dS]
   . rfl
   . rw[?dG,?dG,?dG,Bn];exact ?jW
theorem Fq[?b8]{A:Mat}[?b9](hq:q<n)(hne:?c5)(h:?zA q):?gI:=by
 rcases qg7 p q with z | z
 . exact CK (q-p-1) (p:=p) O9m (by rw[show p+(q-p-1)+1=q by omega];exact h)
 . exact CK (p-q-1) (p:=q) O9m (by rw[show q+(p-q-1)+1=p by omega];exact fun c hc=>(?jW).symm)
theorem tW[?b8](A:Mat)[?b9](hq:q<n)(hne:?c5)(k:Int):?y1 ?nO=?aP:=by
 have:=Ey A ?X ?b2 1 k hp;rw[G6,Fq (A:=?o1) hp hq hne fun c _=>by rw[Bn,Bw (?vX)]]at this;rw[←show(fun c=>1*?aC+k*A q c)=?nO from ?J (?z6 ?v3),this];omega
theorem FD[?b8]{A:Mat}[?R][?gB]:?A8 (?u7) q:=by
 ext x0
 have e0:=z fun c=>1*u c+1*v c;rw[?yY (B4 A p _) hq,?O,?O,?yY (B4 A q u) hp,?yY (B4 A q v) hp]at e0;ext xG
theorem TV{n p:Nat}(A:Mat)[?b9]:?y1 ?oG=- ?aP:=by
 have:=Ey A ?X ?X ?bU 0 hp;rw[G6]at this;rw[show(?oG)=fun c=>-1*?aC+0*?aC from ?J (?z6 ?kB),this];omega
theorem lY[?b8](A:Mat)[?R][?bP](h:a*d-b*c=1) :
 ?A2 (B4 (B4 A p fun k=>a*A p k+b*A q k) q fun k=>c*A p k+d*A q k)=?aP:=by
 ext x0
 have e:?A2 (B4 (?tA) q ?b2)=?aP:=?rH
 have e2:=FD (A:=A) hp hq ne ?X ?b2;rw[Ey _ ?X ?b2 c d hq,?O,?O,?zS ?X,?zS ?b2];rw[←?O,←?O,←?O,←?O,z ?X,z ?b2];rw[e]at e2 ⊢;have e3:?A2 (B4 (?o1) q ?X)=- ?aP:=O9m
 rw[e3]
 grind
noncomputable def prodN[?aY]:?i
 | 0=>1
 | n+1=>?gH
theorem V3[?aY]:∀n,?kE=f 0*?tJ
 | 0=>by simp[prodN]
 | n+1=>by
   show ?kE*f ?B=f 0*(?tJ*f ?B);rw[V3 f n,qf6]
theorem Xi:∀{n:Nat}{A:Mat},(∀r c,r<n->c<r->?dY=0)->?aP=?A1 A n
 | 0,_,_=>rfl
 | n+1,A,h=>by
   show ?fE=_;rw[?aW (j:=0) ?c fun k hk hne=>by rw[h k 0 hk ?c];simp,V3]
   rw[Xi (n:=n) (A:=F6 A 0) fun r c hr hc=>by
    show ?yB 0=0;ext aX;exact h _ _ ?c ?c]
   show 1*A 0 0*?g (fun j=>A (if j<0 then j else j+1) ?I) n=_;rw[qd5];rfl
noncomputable def cJ:?x
 | 0=>1
 | n+1=>?oF
theorem Ou[?S]{M:Nat}:∀{n:Nat},(∀k,k<n->?oH<=M)->(?eX).natAbs<=n*M
 | 0,_=>by simp[Am]
 | n+1,h=>by
   have a:=Ou (n:=n) ?e5;have b:=?mI;have c:=qf1 (?eX) (f n);show(?eX+f n).natAbs<=?B*M;rw[qf5,qf2];omega
theorem PM:∀{n:Nat}{A:Mat}{B:Nat},(∀r c,r<n->c<n->?u8<=B)->?tD<=?u9
 | 0,_,_,_=>by simp[det,cJ]
 | n+1,A,B,h=>by
   show(?iH).natAbs<=?oF*B ^ ?B
   have:?p1<=?B*(B*(?u9)):=by
    refine Ou ?wU;rw[qb1,qb1,W7,qf2];exact qf0 (h i 0 hi O9m) (PM fun r c hr hc=>?wP)
   refine qa6 ?H ?uJ;rw[qg6]
   grind
structure Ih(i:Nat)(R:Mat)[?w]:Prop where
 inc:∀j k,j<k->k<i->?lE
 zero:?tL
 pos:?oZ
theorem Db.s0{w r:Nat}{R:Mat}[?f](h:?vJ):Ih r R t:=⟨?hW,?aN,?Z⟩
theorem Ih.low[?gC][?f][?gD]{j l:Nat}(hj:j<i)(hl:l<j):?d3=0:=?aN j _ hj (?hW l j hl hj)
theorem Tq:∀[?j8],p<n->(∀c,c<n->?aC=0)->?gI:=fun {n p A} hp h=>by
 have:=Ey A ?X ?X 0 0 hp;rw[show(fun c=>0*?aC+0*?aC)=?tS from ?J (?z6 ?kB)]at this
 rw[show ?aP=?y1 ?fF from Da fun r c hr hc=>by
  unfold B4;split
  . rename_i e;rw[e];exact ?jW
  . rfl,this]
 omega
theorem Cy[?S]:∀{n:Nat},(?mX)->0<?cD
 | 0,_=>?tG
 | n+1,h=>?lN (Cy ?e5) (?mI)
noncomputable def pb(R:Mat)[?w](k:Nat):?i
 | 0=>1
 | m+1=>?i8
noncomputable def Q5(R:Mat)[?w](k:Nat):Nat->(?i)
 | 0=>R k
 | m+1=>fun c=>?d0*?y9 m c+?hI*R ?cN c
section
variable[?gC][?f][?gD]
include h
theorem NX{k:Nat}:∀{m:Nat},?dI->0<?eR
 | 0,_=>?tG
 | m+1,hm=>?lN (?Z _ O9m) (NX O9m)
theorem cW{k l:Nat}(hl:l<k):∀{m:Nat},?dI->?kP=0
 | 0,hm=>?bH hm hl
 | m+1,hm=>by
   ext x2;rw[cW hl ?c,?s1];simp
theorem FI{k:Nat}:∀{m:Nat},?dI->?rB=?eR*?i2
 | 0,_=>by show ?i2=1*?i2;omega
 | m+1,hm=>by
   show ?d0*?rB+?hI*R ?cN ?a1=?i8*?i2;rw[FI ?c,?bH (j:=?f3) (l:=k) ?c ?c,qf6];simp
theorem CV{k:Nat}:∀{m l:Nat},?dI->k<l->l<=k+m->?kP=0
 | 0,l,_,h1,h2=>O9m
 | m+1,l,hm,h1,h2=>by
   ext x2;by_cases e:l=?f3
   . subst e;rw[qf4,qn0];omega
   . rw[CV ?c h1 ?c,?s1];simp
theorem PY{W:Nat}{k:Nat}:∀{m:Nat},?dI->In W i R (Q5 R t k m)
 | 0,hm=>?v hm
 | m+1,hm=>(PY O9m).mix ?wK _ _
theorem jS{k:Nat}(s:?x):∀{m:Nat},?dI->?A6 (B4 ?cM k ?wV)=?eR*?A6 ?cM
 | 0,hm=>by
   show ?A6 (B4 ?cM k (?cM k))=1*_;rw[G6];omega
 | m+1,hm=>by
   show ?A6 (B4 ?cM k fun c=>?d0*?sD+?hI*?sK)=_;rw[Ey ?cM (?wV) (?sJ) _ _ ?c,jS s ?c];rw[Fq (p:=k) (q:=?f3) (A:=B4 ?cM k ?sJ) ?c ?c ?c fun c _=>by rw[Bn,?dG]];show _=?i8*_;rw[qf6];omega
universe e9
theorem skip_prod[?S]{k:Nat}:∀(n:Nat),k<=n->?g (fun l=>?y2 f) n=?cQ*?nR
 | 0,h=>by
   have:k=0:=O9m
   subst this;simp[prodN]
 | n+1,h=>by
   by_cases e:k=n+1
   . subst e;rw[show n+1-?B=0 by omega];show ?g _ ?B=?kE*1
     have:∀m,m<=n+1->?g (fun l=>f (if l<n+1 then l else l+1)) m=?aU:=by
      intro m
      induction m with
      | zero=>intro _;rfl
      | succ m ih =>
        intro hm;show ?jR*f (if m<n+1 then m else m+1)=?aU*f m;rw[?fA,?E]
     rw[?H _ ?h];omega
   . show ?g _ n*f (if n<k then n else n+1)=_;rw[?sQ n ?c,?l,show n+1-k=?dD+1 by omega];show _=?cQ*(?nR*f (k+1+?dD));rw[show k+1+?dD=n+1 by omega,qf6]
theorem bQ(R:Mat)[?w](k:Nat):∀m,?eR=?g (fun l=>R (k+1+l) (t (k+1+l))) m
 | 0=>rfl
 | m+1=>by
   show ?i8=?jR*?d0;rw[bQ R t k m,qf4]
noncomputable def AG[?w](k c:Nat):?x
 | 0=>c
 | l+1=>?y2 t
theorem yW[?gC][?f][?gD]{k c:Nat}(hk:k<i){D:Nat}(hD:?yD ?i6 D):(?y9 ?lY c).natAbs<=D:=by
 have hm:k+?lY<i:=O9m
 have e1:=jS h (k:=k) (AG t k c) hm
 have hu0:∀l,l<i->l≠k->?y9 ?lY ?m=0:=fun l hl hne=>by
  rcases qg7 l k with z | z
  . exact cW h z hm
  . exact CV h hm O9m O9m
 obtain⟨n,rfl⟩:∃n,i=n+1:=?uA
 have e2:det ?B (B4 (?i6) k fun l=>?y9 (n+1-1-k) (AG t k c l))=Sj k*?y9 (n+1-1-k) c*?g (fun l=>R (if l<k then l else l+1) (?y2 t)) n:=by
  show Am (fun j=>Sj j*B4 _ k _ j 0*?A2 (F6 (B4 _ k _) j)) ?B=_;rw[?aW (j:=k) hk ?m0]
  . rw[Bn,Io]
    congr 1
    refine Xi fun r l hr hl=>?_;show R (if r<k then r else r+1) (?y2 t)=0;refine ?bH ?a6 ?_;split<;>split<;>omega
  . rw[Tc hne,Tq (p:=if k<j then k else k-1) ?a6 ?iS]
    . simp
    . rw[Bn];show Q5 R t k (n+1-1-k) (?y2 t)=0;exact hu0 _ ?a6 ?a6
 rw[e1]at e2;rw[?sQ (f:=?gX) n ?c,←bQ,?p4]at e2;rw[?p4];have pp:=NX h (k:=k) (m:=n-k) O9m;have qp:0<?pO:=Cy fun j hj=>?hH;have e3:=?qM ?vQ e2;rw[qb1,qb1,qb1,qb1,W7,qf2]at e3;have p1:0<?bS:=O9m
 have q1:1<=?o5:=O9m
 have:?bS*?kO<=?bS*D:=by
  calc ?bS*?kO<=?kO*(?o5*?bS):=by
        rw[?w6 ?bS];exact qe3 _ (ql1 _ q1)
   _=?bS*(det ?B ?i6).natAbs:=e3.symm
   _<=_:=qe3 _ hD
 exact qq6 ?H p1
theorem aR[?gC][?f][?gD]:?A6 ?f9=?fU:=Xi fun r c hr hc=>?bH hr hc
theorem Yf[?S]:∀{n j:Nat},(?mX)->j<n->f j<=?cD
 | n+1,j,h,hj=>by
   have p:=Cy (n:=n) ?e5;have q:=?mI;show f j<=?gH;by_cases e:j=n
   . subst e;have:1*f j<=?g f j*f j:=?v8;omega
   . have ih:=Yf (n:=n) (j:=j) (?e5) O9m;have:?cD*1<=?gH:=?vV;omega
theorem tQ[?gC][?f][?gD]{D:Nat}(hD:?yD ?lA D){j:Nat}(hj:j<i):?z<=D:=by
 rw[aR h]at hD;have a:=Yf (f:=?gX) (fun k hk=>?mE) hj;have b:=Cy (f:=?gX) (n:=i) (fun k hk=>?mE);omega
theorem Ih.none{W i:Nat}{R:Mat}[?f][?xL](h0:∀j,j<i->v ?p=0):∀c,c<W->v c=0:=by
 obtain⟨x,hx⟩:=hv
 have x0:∀m,m<=i->∀j,j<m->x j=0:=by
  intro m
  induction m with
  | zero=>intro _ j hj;omega
  | succ m ih =>
    intro hm j hj;by_cases e:j<m
    . exact ih O9m j e
    have ej:j=m:=O9m
    subst ej;have e1:=hx ?p (ht j O9m);rw[h0 j ?c,?aW (j:=j) ?c fun k hk hne=>?_]at e1
    . rcases qp6.mp e1.symm with z | z
      . exact z
      . have:=?hH;omega
    . by_cases e2:k<j
      . rw[ih ?c k e2];simp
      . rw[?bH hk ?c];simp
 intro c hc;rw[?lM];exact Bi fun k hk=>by rw[x0 i ?h k hk];simp
theorem In.sum{W i:Nat}{R:Mat}{a:?i}{U:Mat}:∀{m:Nat},(∀j,j<m->In W i R (U j))->In W i R (?z6 ?jD)
 | 0,_=>?hE W i R
 | m+1,h=>by
   have:=(?kG (a:=a) (U:=U) (m:=m) (?yV h)).mix (h m O9m) 1 (a m)
   exact this.congr fun c _=>by
    show 1*?jD+?eU=?jD+?eU;omega
theorem Rx[?aY]:∀(n k:Nat),k<n->?cD=?cQ*(?mK*f k)
 | n+1,k,h=>by
   by_cases e:k=n
   . subst e;rw[show k+1-1-k=0 by omega];show ?cQ*f k=?cQ*(1*f k);rw[qd5]
   . show ?gH=_;rw[Rx f n k ?c,show n+1-1-k=?f5+1 by omega];show _=?cQ*(?g _ ?f5*f (k+1+?f5)*f k);rw[show k+1+?f5=n by omega]
     grind
theorem Ah9[?S]:∀{n k:Nat},(∀l,l<n->0<f l)->k<n->?cQ*f k<=?cD:=fun {n k} h hk=>by
 rw[Rx f n k hk];have a:=Cy (n:=k) fun l hl=>h l O9m;have b:0<?mK:=Cy fun l hl=>?h5;have c:=h k hk;have d:1*f k<=?mK*f k:=?v8;rw[qd5]at d;exact ql0 d O9m
theorem RE{W i:Nat}{R:Mat}[?f][?xL]{κ D c:Nat}(hc:c<W)(hκ:∀j,j<i->?o4<=κ*?bR)
 (hD:∀k,k<i->?yD ?i6 D):(v c).natAbs<=i*?kC:=by
 have hp:∀l,l<i->0<?fS l:=fun l hl=>?Z l hl;have EP:=Cy (n:=i) hp
 have key:?fU*v c=?jT:=by
  have hin:In W i R (?z6 ?r2) :=
   hv.mix (?kG (a:=fun j=>v ?p*?f0) (U:=fun j=>Q5 R t j ?l5) fun j hj=>PY h O9m) _ _
  have:=h.none ht hin (fun m hm=>?_) c hc
  . show _=_;have t:?r2=0:=this;omega
  . show ?fU*v (t m)+?bU*Am (fun j=>(v ?p*?f0)*?o0) i=0;rw[?aW (j:=m) hm ?m0]
    . rw[FI h ?c,bQ,Rx ?fS i m hm]
      grind
    . have:?o0=0:=by
       rcases qg7 m j with z | z
       . exact cW h z O9m
       . exact CV h O9m O9m O9m
      ext b7
 have e:=?qM ?vQ key;rw[qb1]at e
 have le:(?jT).natAbs<=i*(?l6*?kC):=by
  refine Ou ?a0;rw[qb1,qb1];have a1:=hκ j hj;have a2:=yW h hj (hD j hj);have a3:=Ah9 hp hj;have a4:=Cy (n:=j) fun l hl=>hp l O9m;have a5:=hp j hj
  have a6:?gK*?bR<=?l6:=by
   rw[←qb1];have:0<?f0*?z:=?lN a4 a5;omega
  calc ?o4*?gK*(?oB).natAbs
   ≤ κ*?bR*?gK*D:=qf0 (qb7 _ a1) a2
   _=?gK*?bR*?kC:=?s
   _<=_:=qb7 _ a6
 rw[←e]at le;have E1:0<?l6:=O9m
 refine qq6 (qa6 le ?uJ) E1
 grind
theorem In.trans{W n m:Nat}{R R':Mat}{v:?i}(hv:In W n R v)(h:∀j,j<n->In W m R' (R j)):In W m R' v:=by
 obtain⟨x,hx⟩:=hv;exact(?kG (a:=x) (U:=R) h).congr fun c hc=>(?lM).symm
noncomputable def mT(W n:Nat)(R R':Mat):Prop:=(∀j,j<n->In W n R (R' j))/\(∀j,j<n->In W n R' (R j))
theorem mT.refl(W n:Nat)(R:Mat):?z4 R:=⟨?qF,?qF⟩
theorem mT.trans{W n:Nat}{R S T:Mat}(h1:?z4 S)(h2:mT W n S T):?z4 T:=⟨fun j hj=>(h2.1 j hj).trans h1.1,fun j hj=>(h1.2 j hj).trans h2.2⟩
noncomputable def Fa(n:Nat)(R R':Mat):Prop:=∀s:?x,(det n (?yQ R')).natAbs=(?A2 ?lO).natAbs
theorem Fa.refl(n:Nat)(R:Mat):Fa n R R:=fun _=>rfl
theorem Fa.trans{n:Nat}{R S T:Mat}(h1:Fa n R S)(h2:Fa n S T):Fa n R T:=fun s=>(h2 s).trans (h1 s)
theorem Mi(R:Mat)[?nL](s:?x):(fun r l=>B4 R p u r ?a7)=B4 ?gM p (fun l=>u ?a7):=by
 funext r l
 unfold B4;split<;>rfl
noncomputable def addR[?cV](k:Int):Mat:=B4 R p ?wH
theorem Cl[?cV](k:Int)(c:Nat):?k R p q k p c=?p6:=Bn ..
theorem C4[?j6]{k:Int}(h:?cF)(c:Nat):?k R p q k r c=?aJ:=Bw h c
theorem UE[?b8](R:Mat)[?R](k:Int):Fa n R ?cP:=fun s=>by
 unfold addR;rw[Mi];have:=tW ?gM hp hq ne k;rw[show(fun l=>1*R p ?a7+?rC)=fun l=>R p ?a7+?rC from ?J fun l=>?v3,this]
theorem uE{W n p q:Nat}(R:Mat)[?R](k:Int):?z4 ?cP:=by
 ext iW
 . ext eC
   . subst e;exact(?lT ?t4 1 k).congr fun c _=>(Cl R j q k c).symm
   . exact ?eW fun c _=>(?jL).symm
 . ext eC
   . subst e;refine((?yS ?rD).mix (?v (R:=?rD) hq) 1 (-k)).congr ?q4;rw[Cl,C4 ?e6];show 1*(1*?cJ+k*R q c)+-k*R q c=?cJ;rw[qn0];omega
   . exact(?yS ?pA).congr fun c _=>?jL
noncomputable def Gm(R:Mat)(p:Nat):Mat:=B4 R p fun c=>- ?aQ
theorem SS{n p:Nat}(R:Mat)[?b9]:Fa n R ?dC:=fun s=>by
 unfold Gm;rw[Mi,TV ?gM hp,qc4]
theorem sS{W n p:Nat}(R:Mat)[?b9]:?z4 ?dC:=by
 ext iW
 . ext eC
   . subst e;exact(?lT (?fL) ?bU 0).congr ?sX
   . exact ?eW fun c _=>(Bw e c).symm
 . ext eC
   . subst e;exact((?qS).mix (?qS) ?bU 0).congr ?sX
   . exact(?v (R:=Gm R p) hj).congr fun c _=>Bw e c
noncomputable def blendR[?cV][?bP]:Mat:=B4 (B4 R p ?tV) q ?v9
theorem Gk{R:Mat}{p q:Nat}(ne:?c5)[?bP](k:Nat):?z7 p=?v4:=by unfold blendR;rw[Bw ne,Bn]
theorem Ir[?cV][?bP](k:Nat):?z7 q=?qE:=by unfold blendR;rw[Bn]
theorem Dv[?j6](h1:?cF)(h2:r≠q)[?bP](k:Nat):?z7 r=R r k:=by unfold blendR;rw[Bw h2,Bw h1]
theorem ML[?b8](R:Mat)[?R][?j1]:Fa n R ?eL:=fun s=>by
 unfold blendR;rw[Mi,Mi];rw[lY ?gM hp hq ne a b c d h]
theorem mL{W n p q:Nat}(R:Mat)[?R][?j1]:?z4 ?eL:=by
 ext iW
 . ext eC
   . subst e;exact(?lT ?t4 a b).congr fun k _=>(?wI).symm
   . by_cases e2:j=q
     . subst e2;exact((?v hp).mix (?fL) c d).congr fun k _=>(Ir R p j a b c d k).symm
     . exact ?eW fun k _=>(?rY).symm
 . ext eC
   . subst e;refine((?yS ?uW).mix (?v (R:=?uW) hq) d (-b)).congr ?gZ;ext xK
     grind
   . by_cases e2:j=q
     . subst e2;refine((?v (R:=?r4) hp).mix (?yS ?r4) (-c) a).congr ?gZ;ext xK
       grind
     . exact(?yS ?oA).congr fun k _=>?rY
noncomputable def moveR(R:Mat)(i s:Nat):Mat:=fun r c=>if r<s then ?aJ else if r=s then ?cO else if ?aI then R ?dM c else ?aJ
theorem ER{n:Nat}:∀(d:Nat) (R:Mat) {i s:Nat},i<n->i=s+d->Fa n R ?e3
 | 0,R,i,s,hi,e=>by
   have:?eJ=R:=by
    funext r c
    ext aK;by_cases e1:r<s
    . rw[?cZ]
    . rw[?T];by_cases e2:r=s
      . rw[?d5,e2,?uZ]
      . ext nD
   rw[this];exact Fa.refl n R
 | d+1,R,i,s,hi,e=>by
   obtain⟨j,rfl⟩:∃j,i=j+1:=?uA
   have h1:Fa n R (?yG j):=fun t=>by
    rw[Mi,Mi,AV ?c,qc4]
    rw[show B4 (B4 ?f9 j ?v7) ?I (fun l=>R ?I ?m)=?lA from by
     have:=G6 ?f9 j;rw[show(?v7)=?f9 j from rfl,this];exact G6 ?f9 ?I]
   have h2:=ER (n:=n) d (?yG j) (i:=j) (s:=s) O9m O9m
   have e3:?C (?yG j) j s=?C R ?I s:=by
    funext r c
    ext aK;by_cases e1:r<s
    . rw[?cZ,?cZ,?dG,?dG]
    . rw[?T,?T];by_cases e2:r=s
      . rw[?d5,?d5,Bw (show j≠j+1 by omega),Bn]
      . rw[?cH,?cH];by_cases e4:?a4
        . rw[?n e4,?n (show r<=j+1 by omega),Bw (show r-1≠j+1 by omega),Bw (show r-1≠j by omega)]
        . rw[?kM];by_cases e5:r=j+1
          . subst e5;rw[Bn,?E];rfl
          . rw[?e (show ¬r<=j+1 by omega),Bw e5,Bw (?xZ r j)]
   rw[e3]at h2;exact h1.trans h2
theorem oN{W n:Nat}(R:Mat){i s:Nat}[?j7]:?z4 ?e3:=by
 ext iW
 . by_cases e1:j<s
   . exact ?eW ?q2
   . by_cases e2:j=s
     . exact(?v hi).congr fun c _=>by ext aK;rw[?T,?d5]
     . by_cases e3:?aT
       . exact(?v (R:=R) (j:=j-1) O9m).congr fun c _=>by ext aK;rw[?T,?cH,?lP]
       . exact ?eW fun c _=>by ext aK;rw[?T,?cH,?e e3]
 . by_cases e1:j<s
   . exact ?s3 ?q2
   . by_cases e2:j=i
     . exact(?v (R:=?eJ) (j:=s) O9m).congr fun c _=>by ext aK;rw[?l,?o,e2]
     . by_cases e3:j<i
       . exact(?v (R:=?eJ) (j:=j+1) O9m).congr fun c _=>by ext aK;rw[?l,?l,?E];rfl
       . exact ?s3 fun c _=>by ext aK;ext n6
theorem P6{f g:?i}[?b8][?R](h:∀k,k<n->k≠p->k≠q->f k=g k)(e:f p+f q=g p+g q):?eX=Am g n:=by
 have z:?oK=(f p-g p)+(f q-g q):=by
  have e1:?oK=Am (fun k=>(if k=p then 1 else 0)*(f p-g p)+(if k=q then 1 else 0)*(f q-g q)) n:=by
   refine ?jF;by_cases e1:k=p
   . subst e1;rw[?o,?fG];omega
   . rw[?T];by_cases e2:k=q
     . subst e2;rw[?o];omega
     . rw[?cH,h k hk e1 e2];omega
  rw[e1,C5,Dc (fun _=>f p-g p) p n,?n hp,Dc (fun _=>f q-g q) q n,?n hq]
 rw[C5,Bg]at z;omega
noncomputable def pT(n:Nat)(B R:Mat)(a b:Nat):Int:=?pZ
theorem GO[?b8](B R:Mat)[?R](k:Int)(a b:Nat):?zI (?k B q p (-k)) ?cP:=by
 refine P6 hp hq ne (fun j _ h1 h2=>by rw[C4 h2,C4 h1]) ?_;rw[C4 (r:=p) (p:=q) ne,Cl R p q k,Cl B q p (-k),C4 ?e6]
 grind
theorem wZ{n p:Nat}(B R:Mat)(a b:Nat):?zI (Gm B p) ?dC:=by
 refine Al ?gZ;by_cases e:k=p
 . subst e;unfold Gm;rw[Bn,Bn,Int.neg_mul_neg]
 . unfold Gm;rw[?dU,?dU]
theorem eE[?b8](B R:Mat)[?R][?j1](x y:Nat):pT n (?A0 a) ?eL x y=pT n B R x y:=by
 refine P6 hp hq ne (fun j _ h1 h2=>by rw[?qI,?qI]) ?_;rw[?b0,?b0,Ir,Ir];have e1:?rM=(a*d-b*c)*(?rM):=?jP
 have e2:?qA=(a*d-b*c)*(?qA):=?jP
 grind
theorem AA[?aY]:∀(d:Nat) {n i s:Nat},i<n->i=s+d->Am (fun r=>if r<s then f r else if r=s then f i else if ?aI then f ?dM else f r) n=?eX
 | 0,n,i,s,hi,e=>Al fun r _=>by
   by_cases e1:r<s
   . rw[?cZ]
   . rw[?T];by_cases e2:r=s
     . rw[?d5,e2,?uZ]
     . ext nD
 | d+1,n,i,s,hi,e=>by
   rw[←AA f d (n:=n) (i:=i) (s:=s+1) hi ?c];refine P6 (p:=s) (q:=s+1) O9m O9m O9m (fun r _ h1 h2=>?_) ?_
   . by_cases e1:r<s
     . rw[?cZ,?E]
     . rw[?T,?e h1,?e (show ¬r<s+1 by omega),?e h2]
   . rw[?l,?o,?l,?l,?E,?E,?l,?o];show f i+f (s+1-1)=f s+f i;rw[show s+1-1=s by omega];omega
theorem SH{n:Nat}(B R:Mat){i s:Nat}[?j7](a b:Nat):?zI (?C B i s) ?e3:=by
 show Am (fun k=>?C B i s k a*?C R i s k b) n=?pZ;rw[←AA (fun k=>B k a*R k b) (i-s) (n:=n) (i:=i) (s:=s) hi ?c];refine Al fun r _=>?_;ext aK;split
 . rfl
 . split
   . rfl
   . split<;>rfl
noncomputable def pD[?aL][?D](i j:Nat):Int:=Am (fun c=>?kS*B j c) n
noncomputable def Fe[?aL][?D]:Prop:=∀i j,i<n->j<n->?pT=?qJ
noncomputable def dot[?aL][?gB]:Int:=Am (fun c=>u (w+c)*v c) n
theorem Dt[?aL](u v x:?i)(a b:Int):?zQ (?gG) x=a*?zQ u x+b*?zQ v x:=by
 unfold dot;ext e9;exact Al fun c _=>by rw[qs4,qf6,qf6]
theorem Gb[?aL](u x y:?i)(a b:Int):?zQ u (fun c=>a*x c+b*y c)=a*?zQ u x+b*?zQ u y:=by
 unfold dot;ext e9;exact Al fun c _=>?s
theorem Yj[?aL][?D](i j:Nat):?pT=?q9:=rfl
theorem M0[?cV](k:Int):?k R p q k p=?wH:=?J fun c=>Cl ..
theorem addR_row_ne[?j6]{k:Int}(h:?cF):?k R p q k r=R r:=?J fun c=>C4 h c
theorem blend_row_p{R:Mat}{p q:Nat}(ne:?c5)[?bP]:?zE ?u p=?tV:=?J fun k=>?wI
theorem blend_row_q[?cV][?bP]:?zE ?u q=?v9:=?J fun k=>?zE Ir k
theorem blend_row_ne[?j6](h1:?cF)(h2:r≠q)[?bP]:?zE ?u r=R r:=?J fun k=>Dv h1 h2 a b c d k
theorem Fe.add{n w p q:Nat}[?g3][?R](k:Int):Fe n w ?cP (?k B q p (-k)):=fun i j hi hj=>by
 ext n5
 rw[Yj];by_cases e1:i=p
 . subst e1;rw[M0];by_cases e2:j=q
   . subst e2;rw[M0,Gb,Dt,Dt,?U,?tH,?lC,?p5];rw[?fG,?o,?o,?e ?e6];omega
   . rw[?c6 e2,Dt,?U,?s7,show ?y0 q j from ?i1];omega
 . rw[?c6 e1];by_cases e2:j=q
   . subst e2;rw[M0,Gb,?U,?oL,?u0];omega
   . rw[?c6 e2];exact ?U
theorem Fe.neg{n w p:Nat}[?g3][?b9]:Fe n w ?dC (Gm B p):=fun i j hi hj=>by
 ext n5
 have s1:∀(R:Mat),Gm R p p=fun c=>-1*?aQ+0*?aQ:=fun R=>?J (?z6 ?vC)
 have s2:∀(R:Mat) {r:Nat},?cF->Gm R p r=R r:=fun R r hr=>?J fun c=>Bw hr c;rw[Yj];by_cases e1:i=p
 . subst e1;by_cases e2:j=i
   . subst e2;rw[s1,s1,Gb,Dt,?jH];rw[?o];omega
   . rw[s1,s2 B e2,Dt,?U,?i1];omega
 . by_cases e2:j=p
   . subst e2;rw[s1,s2 R e1,Gb,?U,?T];omega
   . rw[s2 R e1,s2 B e2];exact ?U
theorem Fe.blend{n w p q:Nat}[?g3][?R]{a b c d:Int}(h1:a*d-b*c=1):Fe n w ?eL (?A0 a):=fun i j hi hj=>by
 ext n5
 have ne':q≠p:=?k7;rw[Yj];by_cases e1:i=p
 . subst e1;rw[?f7];by_cases e2:j=i
   . subst e2;rw[?f7,Gb,Dt,Dt,?jH,D q j hq hi,D j q hi hq,D q q hq hq]
     ext iV
     grind
   . by_cases e3:j=q
     . subst e3;rw[blend_row_q,Gb,Dt,Dt,?lC,D j i hq hi,D i j hi hq,D j j hq hq]
       ext iV
       grind
     . rw[?l9,Dt,?U,?s7,show ?h4 from ?i1,show ?y0 q j from ?y6 e3];omega
 . by_cases e4:i=q
   . subst e4;rw[blend_row_q];by_cases e2:j=p
     . subst e2;rw[?f7,Gb,Dt,Dt,?tH,?U,?p5,?lC]
       ext iV
       grind
     . by_cases e3:j=i
       . subst e3;rw[blend_row_q,Gb,Dt,Dt,D p p hp hp,D j p hi hp,D p j hp hi,?jH]
         ext iV
         grind
       . rw[?l9,Dt,D p j hp hj,?U,show ?y0 p j from ?i1,show ?h4 from ?y6 e3];omega
   . rw[?mQ e1 e4];by_cases e2:j=p
     . subst e2;rw[?f7,Gb,?U,D i q hi hq,show ?h4 from ?T,show ?y0 i q from ?kM];omega
     . by_cases e3:j=q
       . subst e3;rw[blend_row_q,Gb,?oL,?U,?u0,show ?h4 from ?kM];omega
       . rw[?l9];exact ?U
noncomputable def mvI(i s r:Nat):Nat:=if r<s then r else if r=s then i else if ?aI then r-1 else r
theorem move_row(R:Mat)(i s r:Nat):?C R i s r=R (?rW):=by
 funext c
 unfold moveR mvI;split
 . rfl
 . split
   . rfl
   . split<;>rfl
theorem Fe.move{n w i s:Nat}[?g3][?j7]:Fe n w ?e3 (?C B i s):=fun x y hx hy=>by
 rw[Yj,move_row,move_row];have l:∀r,r<n->?rW<n:=fun r hr=>?r7
 have:=h _ _ (l x hx) (l y hy);rw[Yj]at this;rw[this]
 have inj:(mvI i s x=mvI i s y)↔x=y:=by
  constructor
  . intro e;unfold mvI at e;by_cases a1:x<s<;>by_cases a2:x=s<;>by_cases a3:x<=i<;>by_cases b1:y<s<;>by_cases b2:y=s<;>by_cases b3:y<=i<;>simp only[a1,a2,a3,b1,b2,b3,if_true,if_false]at e<;>first | omega | (subst_vars;simp_all;try omega)
  . intro e;rw[e]
 by_cases e:x=y
 . rw[?fR,?n (inj.mpr e)]
 . rw[?eV,?e fun z=>e (inj.mp z)]
structure Good(n W w lo:Nat)(R B R' B':Mat):Prop where
 eqv:∀m,lo<=m->mT W m R R'
 det:∀m,lo<=m->Fa m R R'
 pt:∀a b,?zI B' R'
 dual:?qQ->Fe n w R' B'
 rest:∀r c,lo<=r->?qT
 restB:∀r c,lo<=r->B' r c=B r c
theorem Good.refl(n W w lo:Nat)[?D]:?y5 R B:=⟨fun m _=>mT.refl W m R,fun m _=>Fa.refl m R,?hF,id,?d8,?d8⟩
theorem Good.trans[?jB]{R B R' B' S C:Mat}(h1:?mB)(h2:?Q n W w lo R' B' S C):?y5 S C :=
 ⟨?zL h1.eqv h2.eqv,?zL h1.det h2.det,fun a b=>(h2.pt a b).trans (h1.pt a b),fun d=>h2.dual (h1.dual d),?z5 h2.rest h1.rest,?z5 h2.restB h1.restB⟩
theorem Good.mono{n W w lo lo':Nat}[?j9](h:?mB)(hl:lo<=lo'):?Q n W w lo' R B R' B':=⟨?zC h.eqv m,?zC h.det m,h.pt,h.dual,fun r c hr=>h.rest r c O9m,fun r c hr=>h.restB r c O9m⟩
theorem Good.add{n W w lo p q:Nat}[?D][?xU](k:Int):?y5 ?cP (?k B q p (-k)) :=
 ⟨?y7 uE k,?y7 UE k,fun a b=>GO B R O9m O9m ne k a b,fun d=>d.add O9m O9m ne k,?oM,?oM⟩
theorem Good.neg{n W w lo p:Nat}[?D](hp:p<lo)(hn:?iU):?y5 ?dC (Gm B p) :=
 ⟨?zC sS R,?zC SS R,fun a b=>wZ B R a b,fun d=>d.neg O9m,?tE,?tE⟩
theorem Good.blend{n W w lo p q:Nat}[?D][?xU][?j1]:?y5 ?eL (?A0 a) :=
 ⟨?y7 mL h,?y7 ML h,fun x y=>eE B R O9m O9m ne h x y,fun e=>e.blend O9m O9m ne h,?wT,?wT⟩
theorem Good.move{n W w lo i s:Nat}[?D](hi:i<lo)(hs:s<=i)(hn:?iU):?y5 ?e3 (?C B i s) :=
 ⟨fun m hm=>oN R O9m hs,fun m hm=>ER (i-s) R O9m O9m,fun a b=>SH B R O9m hs a b,fun d=>d.move O9m hs,fun r c hr=>by
  ext e8;ext n6,fun r c hr=>by
  ext e8;ext n6⟩
theorem Fe.row{n w i:Nat}[?g3](hi:i<n):∃c,c<n/\?kS≠0:=by
 refine qg0 ?iA;have e:=h i i hi hi;rw[?o]at e;unfold pD at e;rw[Bi ?dS]at e
 . cases e
 . have:?kS=0:=qg0 fun y=>z ⟨c,hc,y⟩;ext b7
theorem jP{x h:Int}{K:Nat}(hh:0<h)(hx:x.natAbs<=K*h.natAbs):?vM<=K:=by
 have e:(h.natAbs:Int)=h:=O9m
 have hx':(x.natAbs:Int)<=?h2*h:=by rw[←e];exact_mod_cast hx
 have u1:x / h<=?h2:=by
  have:x<=?h2*h:=O9m
  exact Int.ediv_le_of_le_mul hh ?H
 have u2:-?h2<=x / h:=by
  refine(Int.le_ediv_iff_mul_le hh).mpr ?_;rw[qn0];omega
 omega
structure Part(R:Mat)[?w](f m:Nat):Prop where
 inc:∀j k,?d4->j<k->k<m->?lE
 zero:∀j c,?d4->j<m->?q7
 pos:∀j,?d4->j<m->0<?z
 red:∀k j,f<=k->k<j->j<m->?r5
structure MS(n W w lo:Nat)[?D][?w](p f m j μ:Nat)(R' B':Mat):Prop where
 good:?mB
 same:?pL
 left:∀c,(∀l,f<=l->l<m->c<t l)->?fN=?aQ
 red:∀l,f<=l->l<j->?w8
 rel:∀l,j<=l->l<m->?A7 ?cA ?gR
 ins:∀W',∃v:?i,In W' lo R v/\∀c,?fN=?aQ+v c
theorem MS.start[?jB][?aZ][?f]{p f m μ:Nat}[?xI]:MS n W w lo R B t p f m f μ R B :=
 ⟨?hO,?d8,?hF,fun l h1 h2=>O9m,fun l h1 h2=>by rw[qh8,qw4,qf2];exact h l h1 h2,fun W'=>⟨?fF,?hE W' lo R,fun c=>by show ?aQ=?aQ+0;omega⟩⟩
theorem BD[?cV]:?k R p q 0=R:=by
 funext r c
 by_cases e:r=p
 . subst e;rw[Cl];omega
 . exact ?jL
theorem MS.step[?jB][?j9][?f]{p f m j μ:Nat}(h:MS n W w lo R B t p f m j μ R' B')(P:?iL)(hf:?d4)(hj:j<m)[?xT] :
 ?s8<=2 ^ (j-f)*μ/\MS n W w lo R B t p f m ?I μ (?k R' p j (-(?c2))) (?k B' j p (?c2)):=by
 have hh:=P.pos j hf hj;have ne:p≠j:=O9m
 have q1:=jP hh (h.rel j ?h hj);refine⟨q1,?_⟩;generalize hq:?c2=q at q1;have rj:∀c,?uU:=fun c=>h.same j c ?e6;refine⟨?gP ?_,?vL,?dS,?d6,?d6,fun W'=>?_⟩
 . have:=?pW (n:=n) (W:=W) (w:=w) (lo:=lo) R' B' hp (show j<lo by omega) hn ne ?bL;rw[qm9]at this;ext a9
 . rw[C4 hr];exact h.same r c hr
 . rw[Cl,h.left c hc,rj,?kD j c hf hj (hc j hf hj)];simp
 . rw[Cl,rj];by_cases e:l=j
   . subst e;have d1:=Int.emod_nonneg (?cA) (?xZ ?cB 0);have d2:=qq3 (?cA) hh;have d3:=Int.mul_ediv_add_emod (?cA) (?cB);rw[hq]at d3;have d4:?cB*q=q*?cB:=?kN;rw[qn0];omega
   . have z:?d3=0:=?kD j _ hf hj (P.inc l j h1 O9m hj);rw[z,qf3,qq4,qd5];exact ?fO l h1 O9m
 . rw[Cl,rj];have a:=?z8 h.rel;obtain⟨b1,b2⟩:=P.red j l hf O9m h2;have b:?A7 ?d3 ?bG:=O9m
   have c:=qf1 (1*?cA) (-q*?d3);rw[qd5]at c;rw[qd5]
   have d:(-q*?d3).natAbs<=?gR:=by
    rw[qb1,qc4];exact qf0 q1 b
   rw[show j+1-f=(j-f)+1 by omega,qg6];have e:2 ^ (j-f)*2*μ*?bG=?gR+?gR:=?s
   omega
 . obtain⟨v,hv,hc⟩:=h.ins W';refine⟨fun c=>1*v c+?bL*?cJ,hv.mix ?wK 1 ?bL,?z6 ?_⟩;rw[Cl,hc c,rj]
   grind
noncomputable def Bits(n W b:Nat)(R:Mat):Prop:=∀r c,r<n->c<W->?dV<?t
theorem fN{x y a k:Int}{b c:Nat}(hx:x.natAbs<?t)(hy:y.natAbs<?t)(ha:a.natAbs<?q)(hk:?v0):?rX<2 ^ (b+c+1):=by
 have e:=?qN;rw[qb1,qb1]at e;have u:a.natAbs*x.natAbs<?iD:=?yZ ha hx
 have v:k.natAbs*y.natAbs<?iD:=?yZ hk hy
 rw[?kF,qg6];omega
theorem Bits.mono{n W b b':Nat}[?g4](hb:b<=b'):?zV b' R:=?wM
theorem Bits.add{n W b c p q:Nat}[?g4][?b9][?nE]:?zV (b+c+1) ?cP:=fun r x hr hx=>by
 by_cases e:r=p
 . subst e;rw[Cl]
   have h1:(1:Int).natAbs<2 ^ ?M:=by
    have:1<=?q:=qj9;rw[qg6];show 1<_;omega
   have e1:=qf1 (1*?fB) (k*R q x);rw[qd5,qb1]at e1;rw[qd5];have u:k.natAbs*(R q x).natAbs<?iD:=?yZ hk (h q x hq hx)
   have v:?t0<?iD:=?rQ;rw[?kF,qg6];omega
 . rw[C4 e];exact ?rQ
theorem Bits.blend{n W b e p q:Nat}[?g4][?R][?x6]:?zV (b+e+1) (?u R p q x y z u):=fun r c hr hc=>by
 by_cases e1:r=p
 . subst e1;rw[?b0];exact fN ?dL (h q c hq hc) hx hy
 . by_cases e2:r=q
   . subst e2;rw[Ir];exact fN (h p c hp hc) ?dL hz hu
   . rw[?rS];exact qb3 ?dL (?hS)
theorem Bits.neg{n W b p:Nat}[?g4]:?zV b ?dC:=fun r c hr hc=>by
 unfold Gm;by_cases e:r=p
 . subst e;rw[Bn,qc4];exact ?h0
 . rw[?dU];exact ?h0
theorem Bits.move{n W b i s:Nat}[?g4][?j7]:?zV b ?e3:=fun r c hr hc=>by
 rw[move_row];exact h _ c (?r7) hc
structure Dj[?e7](R0 B0:Mat)[?w](π b:Nat)(spot:Nat)[?D]:Prop where
 good:?jE
 zero:?tL
 pos:?oZ
 old:∀j c,spot<=j->j<i->?cJ=R0 j c
 pass:∀j c,?eP->c<=t j->?dX
 pv:∀l,spot<=l->l<i->(R i ?m).natAbs<=?A
 gc:∀r c,?aI->G c->?dV<=2 ^ (?hR)
structure Jw[?e7](R0 B0:Mat)[?w](π b:Nat):Prop where
 hi:i<n
 part:?bJ R0 t 0 i
 lt:?oT
 hd:?yC ?tB ?A
 rw:∀r c,r<i->G c->?A7 ?mR ?t
 ri:∀c,G c->(R0 i c).natAbs<=?t
 rp:∀l,l<i->(R0 i ?m).natAbs<=?A
theorem Part.sub{R:Mat}[?f]{f f' m:Nat}(h:?iL)(hf:f<=f'):?bJ R t f' m:=⟨fun j k h1=>?hW j k O9m,fun j c h1=>?aN j c O9m,fun j h1=>?hH,fun k j h1=>?fO k j O9m⟩
theorem Part.congr{R R':Mat}[?f]{f m:Nat}(h:?iL)(e:∀j c,?d4->j<m->?uU):?bJ R' t f m :=
 ⟨?hW,fun j c h1 h2 h3=>by rw[e j c h1 h2];exact ?aN j c h1 h2 h3,fun j h1 h2=>by rw[e j _ h1 h2];exact ?Z j h1 h2,fun k j h1 h2 h3=>by rw[e k _ h1 ?c,e j _ ?c h3];exact ?fO k j h1 h2 h3⟩
theorem Dj.start[?G]{R0 B0:Mat}[?f]{π b:Nat}(h:?vB):Dj n W w i G R0 B0 t π b 0 R0 B0:=by
 refine⟨?hO,fun j c hj hc=>h.part.zero j c ?K hj hc,fun j hj=>h.part.pos j ?K hj,fun _ _ _ _=>rfl,?mV,fun l _ hl=>h.rp l hl,?bY⟩;have e:?t<=2 ^ (?bN+0*?bD):=?hS;by_cases z:r=i
 . subst z;exact qa6 (h.ri c hc) e
 . exact qa6 (h.rw r c O9m hc) e
theorem Dj.skip[?G][?cW][?f][?gA](h:?vA)(hz:∀c,?fT->?dX):?yA R B:=by
 refine⟨h.good,?aN,?Z,fun j c hj=>?aD j c O9m,?dP,fun l hl=>h.pv l O9m,fun r c hr hc=>qa6 (?lL) (qe7 ?c9 ?_)⟩
 . ext g8
   . subst e;exact hz c hc
   . exact h.pass j c O9m hc
 . rw[qf5];omega
structure c6[?e7][?D][?w](b p spot μ:Nat)(R' B':Mat):Prop where
 good:?Q n W w ?j R B R' B'
 same:?pL
 left:∀c,?fT->?fN=?aQ
 red:∀l,?bC->l<i->?w8
 gc:∀c,G c->?pU<=?sS+2 ^ ?aA*μ*?t
structure z7[?e7][?D][?w](b p spot μ j:Nat)(R' B':Mat):Prop where
 s:MS n W w ?j R B t p ?r i j μ R' B'
 gc:∀c,G c->?pU+μ*?t<=?sS+?m6
theorem z7.start[?G][?aZ][?f][?nN][?n7]:z7 n W w i G R B t b p ?d μ ?r R B :=
 ⟨?uH ?uT,fun c _=>by rw[qh8,qw4,qf2];exact ?cL⟩
theorem z7.step[?G][?j9][?f]{b p spot μ j:Nat}(h:?z0 j)[?nK][?nA](hf:spot<j)(hj:j<i)[?nI] :
 ?s8<=?kA/\z7 n W w i G R B t b p ?d μ ?I (?k R' p j (-(?c2))) (?k B' j p (?c2)):=by
 obtain⟨q,s⟩:=h.s.step P O9m hj O9m O9m O9m O9m;refine⟨qa6 q (qb7 _ (?hS)),s,?dS⟩;have ne:p≠j:=O9m
 rw[Cl,?pC j c ?e6];have a:=?tU;have e:=qf1 (1*?fN) (-(?c2)*?cJ);rw[qd5,qb1,qc4]at e;rw[qd5];have m:=qf0 q (hG j c hf hj hc);rw[show j+1-?r=(j-?r)+1 by omega,qg6];have z:2 ^ (j-?r)*2*μ*?t=?m6+?m6:=?s
 omega
theorem z7.done[?G][?j9][?f][?nN](h:?z0 i)(P:?k5):c6 n W w i G R B t b p ?d μ R' B' :=
 ⟨h.s.good,?pC,fun c hc=>h.s.left c fun l h1 h2=>by have:=?z8 P;omega,fun l h1 h2=>?z8 h.s.red,fun c hc=>by have:=?tU;omega⟩
theorem C7{a b:Nat}(h:a<=b):2 ^ a<=?t:=qe7 ?c9 h
theorem sW{x y a b:Nat}(hx:x<=2 ^ a)(hy:y<=?t):x*y<=2 ^ (a+b):=by rw[qd7];exact qf0 hx hy
theorem Dj.addPre[?G][?cW][?f][?gA][?bO][?bQ]{q:Int}(hq:?k6) :
 ∀l,?bC->l<i->(?k R i ?d ?bL i ?m).natAbs<=?fY*(?k R i ?d ?bL l ?m).natAbs:=fun l h1 h2=>by
 rw[Cl,C4 (?xZ l i)];ext wZ;have a:=?lU;have e:=qf1 (1*R i ?m) (-q*?pH);rw[qd5,qb1,qc4]at e;rw[qd5];have m:q.natAbs*?vI<=?iP:=qf0 hq O9m;have m2:?A*1<=?iP:=?jG;rw[qg6];have z:?A*2*?bG=?iP+?iP:=?s
 omega
theorem Dj.metAdd[?G]{R0 B0 R B R2 B2:Mat}[?f][?gA][?bO][?bQ]{q:Int}(hq:?k6)[?j0][?xV]
 (S:c6 n W w i G (?uD) (?uK) t b i ?d (?fY) R2 B2):?yA R2 B2:=by
 have ne:i≠spot:=O9m
 have keep:∀r c,r≠i->R2 r c=?aJ:=fun r c hr=>by rw[?dF r c hr,C4 hr]
 refine⟨?_,fun j c hj hc=>by rw[?uO];exact ?pY,fun j hj=>by rw[?cC j _ ?c];exact ?s9,fun j c hj hji=>by rw[?uO];exact ?uP,?dP,?d6,?bY⟩
 . have g:=?pW (n:=n) (W:=W) (w:=w) (lo:=i+1) R B (?yK i) (?yK spot) ?b5 ne ?bL;rw[qm9]at g;exact ?oU S.good
 . have ts:?fT:=by
    ext g8
    . rw[←e];exact hc
    . ext xR
   rw[S.left c ts,Cl];by_cases e:c=?b1
   . rw[e,he,qd5,qn0];omega
   . rw[?w2,?aN ?d c hs ?c];simp
 . obtain⟨a,c⟩:=?z8 S.red;rw[C4 (?xZ l i)]at c;ext xE
 . ext x3
   rw[zb];generalize hz2:?hR=z;have hzb:?bN<=z:=?sV
   by_cases e:r=i
   . subst e;have a:=S.gc c hc;have g:=?dO r c ?h hc;rw[hz2]at g;have rs:?v6:=?pR
     have e1:=qf1 (1*?aJ) (-q*?e2);rw[qd5,qb1,qc4]at e1;rw[Cl,qd5]at a;have m1:=sW hq rs
     have m2:2 ^ (r-?r)*?fY*?t<=?jI:=by
      rw[←qd7,←qd7];exact ?aH
     have m3:?sT<=?jI:=?aH;have m4:4*?jI=2 ^ z:=?yN z z
     have m5:2*2 ^ z<=2 ^ (z+π+1):=by rw[show z+π+1=1+(z+π) by omega,qd7];exact qf0 ?c9 ?aG
     omega
   . rw[?cC r c e];have g:=?lL;rw[hz2]at g;exact qa6 g ?aG
structure kG(π:Nat)(h0 o0 x y z u:Int):Prop where
 one:x*u-y*z=1
 hd:0<x*h0+y*o0
 ot:z*h0+u*o0=0
 lx:?m9
 ly:?mO
 lz:z.natAbs<=?A
 lu:u.natAbs<=?A
theorem jF{x y a c:Int}{π h:Nat}(hx:?m9)(hy:?mO)(ha:a.natAbs<=h)(hc:c.natAbs<=?A)(h1:1<=h):(x*a+y*c).natAbs<=?Y*h:=by
 have e:=qf1 (x*a) (y*c);rw[qb1,qb1]at e;have m1:x.natAbs*a.natAbs<=?hM:=qf0 (qa6 hx ?aG) ha;have m2:y.natAbs*c.natAbs<=?hM:=qa6 (sW hy hc) (by rw[show π+π=2*π by omega];exact qh4 _ h1);rw[qg6];have z:?rG*2*h=?hM+?hM:=?s
 omega
theorem Dj.blendPre[?G][?cW][?f][?gA][?bO][?bQ][?n8] :
 (?y3 ?d)/\(?y3 i):=by
 have ne:?kU:=O9m
 have base:∀l,?bC->l<i->?vI<=?bG/\1<=?bG:=fun l h1 h2=>by
  ext wZ;omega
 refine⟨?d6,?d6⟩
 . rw[?b0,?k1];exact jF e.lx e.ly (?hK).1 (?lU) (?hK).2
 . rw[Ir,?k1];exact jF e.lz e.lu (?hK).1 (?lU) (?hK).2
theorem Dj.metBlend[?G]{R0 B0 R B R2 B2 R3 B3:Mat}[?f][?gA][?bO][?bQ][?n8][?j0]
 (S1:c6 n W w i G (?m3) (?u B ?d i u (-z) (-y) x) t b ?d ?d (?Y) R2 B2) (S2:c6 n W w i G R2 B2 t b i ?d (?Y) R3 B3):?yA R3 B3:=by
 have ne:?kU:=O9m
 have keep:∀r c,r≠i->?sA->R3 r c=?aJ:=fun r c h1 h2=>by rw[S2.same r c h1,?eZ r c h2,Dv h2 h1]
 have rs:∀c,R3 ?d c=R2 ?d c:=fun c=>S2.same ?d c ne;have r2i:∀c,R2 i c=z*?e2+u*?cO:=fun c=>by rw[?eZ i c (fun w=>ne w.symm),Ir]
 have gz:∀c,c<?b1->?e2=0:=fun c hc=>?aN ?d c hs hc;refine⟨?_,?dP,?a0,fun j c hj hji=>by rw[?cC j c ?c ?c];exact ?uP,?dP,?d6,?bY⟩
 . have g:=Good.blend (n:=n) (W:=W) (w:=w) (lo:=i+1) R B (?yK spot) (?yK i) ?b5 ne e.one;exact(?oU S1.good).trans S2.good
 . by_cases e1:?dR
   . subst e1;rw[rs,S1.left c ?c,?b0,gz c hc,hz c hc];simp
   . rw[?cC j c ?c e1];exact ?pY
 . by_cases e1:?dR
   . subst e1;rw[rs,S1.left _ ?h,?b0];exact e.hd
   . rw[?cC j _ ?c e1];exact ?s9
 . have ts:?fT:=by
    by_cases e1:?dR
    . rw[←e1];exact hc
    . ext xR
   rw[S2.left c ts,r2i];by_cases e1:c=?b1
   . rw[e1];exact e.ot
   . rw[?w2,gz c ?c];simp
 . obtain⟨a,c⟩:=?z8 S2.red;rw[?s0,?k1]at c;ext xE
 . ext x3
   rw[zb];have g0:=?dO ?d c O9m hc;have gi:=?dO i c ?h hc;have gr:=?lL;generalize hz2:?hR=zz at g0 gi gr;have hzb:?bN<=zz:=?sV
   have rsb:?v6:=?pR
   have bnd:∀{x y:Int},?m9->?mO->(x*?e2+y*?cO).natAbs+2 ^ ?aA*?Y*?t<=2 ^ (zz+π+1):=fun {x y} hx hy=>by
    have e1:=qf1 (x*?e2) (y*?cO);rw[qb1,qb1]at e1;have m1:=sW hx rsb;have m2:=sW hy gi
    have m3:2 ^ ?aA*?Y*?t<=?lW:=by
     rw[←qd7,←qd7];exact ?aH
    have m4:?sT<=?lW:=?aH;have m5:4*?lW=2 ^ zz:=?yN zz zz
    have m6:2 ^ zz<=2 ^ (π+zz):=?aH;have m7:2 ^ (zz+π+1)=2*2 ^ (π+zz):=by rw[show zz+π+1=1+(π+zz) by omega,qd7,Nat.pow_one]
    omega
   by_cases e1:r=i
   . subst e1;have a:=S2.gc c hc;rw[r2i]at a;exact qa6 a (bnd e.lz e.lu)
   . by_cases e2:?lJ
     . subst e2;have a:=S1.gc c hc;rw[?b0]at a;rw[rs];exact qa6 a (bnd e.lx e.ly)
     . rw[?cC r c e1 e2];exact qa6 gr ?aG
noncomputable def insT[?w](s st:Nat):?x:=fun r=>if r<s then t r else if r=s then st else t ?dM
structure UJ[?e7](R0 B0:Mat)(t1:?x)(Y:Nat)[?D]:Prop where
 good:?jE
 s0:Ih ?j R t1
 lt:∀j,?aT->t1 j<W
 pg:∀j,?aT->G (t1 j)
 gc:∀r c,?aI->G c->?dV<=?gN
theorem Dj.ins[?G][?cW][?f]{π b spot st:Nat}[?bO](hs:?lZ)(h0:∀c,c<st->?dX)(h1:R i st≠0)(hW:st<W)(hG:G st)(ZO:?nY)(hex:spot<i->st<?b1) :
 UJ n W w i G R0 B0 ?hP (?bN+i*?bD) (if ?hY<0 then Gm ?i7 ?d else ?qZ) (if ?hY<0 then Gm (?kT) ?d else ?kT):=by
 have row:∀c,?o3=?cO:=fun c=>by ext e8;ext iX
 have lo:∀r c,r<spot->?iQ=?aJ:=fun r c hr=>by ext e8;rw[?mA]
 have up:∀r c,?d9->?aI->?iQ=R ?dM c:=fun r c hr hi=>by ext e8;rw[?l,?l,?n hi]
 have gm:?Q n W w ?j R0 B0 ?i7 (?kT):=?gP (Good.move R B O9m hs ?b5)
 have tl:∀j,?eP->t j<st:=fun j hj=>by
  refine qi5 fun z=>h1 (h.pass j st hj z)
 have inc:∀j k,j<k->k<i+1->?fM<?c7 t ?d st k:=fun j k hjk hk=>by
  unfold insT;by_cases a1:?eP
  . rw[?iO];by_cases b1:k<spot
    . rw[?n b1];exact ?e4 j k ?K hjk O9m
    . rw[?e b1];by_cases b2:k=spot
      . rw[?n b2];exact tl j a1
      . rw[?e b2];exact ?yX j
  . rw[?i4,?e (show ¬k<spot by omega),?e (show ¬k=spot by omega)];by_cases a2:?dR
    . rw[?kV];have e:=hex O9m;by_cases e2:k-1=spot
      . rw[e2];exact e
      . exact qt5 e (?yX ?d)
    . rw[?kX];exact ?yX ?dN
 have zero:∀j c,j<i+1->c<?fM->?zX j c=0:=fun j c hj hc=>by
  unfold insT at hc;by_cases a1:?eP
  . rw[?iO]at hc;rw[lo j c a1];exact ?aN j c O9m hc
  . rw[?i4]at hc;by_cases a2:?dR
    . rw[?kV]at hc;rw[a2,row];exact h0 c hc
    . rw[?kX]at hc;rw[up j c ?c ?c];exact ?aN ?dN c O9m hc
 have Af3:∀j,j<i+1->j≠spot->0<?zX j (?fM):=fun j hj hne=>by
  unfold insT;by_cases a1:?eP
  . rw[?iO,lo j _ a1];exact ?hH
  . rw[?i4,?e hne,up j _ ?c ?c];exact ?Z ?dN O9m
 have ts:?c7 t ?d st ?d=st:=?qY
 have bd:∀r c,?aI->G c->(?iQ).natAbs<=2 ^ (?bN+i*?bD):=fun r c hr hc=>by
  rw[move_row]
  have lm:mvI i ?d r<=i:=by
   unfold mvI;by_cases a1:r<spot
   . rw[?iO];omega
   . rw[?i4];by_cases a2:?lJ
     . rw[?kV];omega
     . rw[?kX,?mA];omega
  refine qa6 (?dO _ c lm hc) (C7 ?_);have:=qb7 ?bD hs;omega
 have lt:∀j,?aT->?fM<W:=fun j hj=>by
  unfold insT;split
  . exact H.lt j O9m
  . split
    . exact hW
    . exact H.lt ?dN O9m
 have pg:∀j,?aT->G (?fM):=fun j hj=>by
  unfold insT;split
  . exact ZO j O9m
  . split
    . exact hG
    . exact ZO ?dN O9m
 by_cases neg:?hY<0
 . rw[?n neg,?n neg];have nr:∀c,Gm ?i7 ?d ?d c=- ?o3:=fun c=>Bn ..;have nn:∀r c,?sA->Gm ?i7 ?d r c=?iQ:=fun r c hr=>Bw hr c;refine⟨gm.trans (Good.neg _ _ O9m ?b5),⟨inc,?dP,?a0⟩,lt,pg,?bY⟩
   . ext g8
     . have z:=?s6;rw[e]at z ⊢;rw[nr,z];rfl
     . rw[nn j c e];exact ?s6
   . ext g8
     . rw[e,nr,ts];omega
     . rw[nn j _ e];exact ?uN
   . by_cases e:?lJ
     . have z:=?u1;rw[e]at z ⊢;rw[nr,qc4];exact z
     . rw[nn r c e];exact ?u1
 . rw[?e neg,?e neg];refine⟨gm,⟨inc,zero,?a0⟩,lt,pg,bd⟩;ext g8
   . rw[e,ts];have:?hY≠0:=by rw[row];exact h1
     omega
   . exact ?uN
structure On(n W w i:Nat)(R0 B0:Mat)[?w](k:Nat)[?D]:Prop where
 good:?jE
 s0:?o7
 old:∀r c,r<k->?aJ=?mR
 red:∀r j,k<=r->r<j->?aT->0<=R r ?p/\R r ?p<?z
 hd:∀j,?aT->?z=?tB
theorem On.start{n W w i:Nat}[?aZ][?f](h:?o7):On n W w i R B t ?j R B:=⟨?hO,h,?d8,fun r j h1 h2 h3=>O9m,?hF⟩
theorem On.part{n W w i:Nat}[?cW][?f]{k:Nat}(h:On n W w i R0 B0 t k R B):?bJ R t k ?j:=⟨fun j l _ h1 h2=>?k8 j l h1 h2,fun j c _ h1 h2=>?r0 j c h1 h2,fun j _ h1=>?r6 j h1,fun r j h1 h2 h3=>?fO r j h1 h2 O9m⟩
theorem On.next{n W w i:Nat}{R0 B0 R B R' B':Mat}[?f]{k μ:Nat}(h:On n W w i R0 B0 t ?aF R B)(hk:k<=i)(S:MS n W w ?j R B t k ?aF ?j ?j μ R' B'):On n W w i R0 B0 t k R' B':=by
 have tl:∀c,c<=t k->R' k c=R k c:=fun c hc=>S.left c fun l h1 h2=>by have:=?k8 k l O9m h2;omega
 refine⟨?gP S.good,⟨?k8,?dP,?a0⟩,?vL,fun r j h1 h2 h3=>?_,?a0⟩
 . ext eB
   . subst e;rw[tl c ?c];exact ?qO
   . rw[?dF j c e];exact ?qO
 . ext eB
   . subst e;rw[?rU];exact ?sP
   . rw[?sN];exact ?sP
 . rw[?dF r c ?c];exact ?aD r c O9m
 . rw[?dF j _ (?xZ j k)];by_cases e:r=k
   . subst e;exact S.red j O9m O9m
   . rw[?dF r _ e];exact ?fO r j O9m h2 h3
 . ext eB
   . subst e;rw[?rU];exact ?w1
   . rw[?sN];exact ?w1
structure Do[?e7](M B0:Mat)[?w][?D]:Prop where
 good:?zW i M
 st:Db W i R t
 pg:?nY
theorem Do.start(n W w:Nat)(G:?a2)(M B0:Mat)[?w]:Do n W w 0 G M B0 t M B0:=⟨?hO,⟨?eO,fun j k _ hk=>O9m,?mV,?eO,fun k j _ hj=>O9m⟩,?eO⟩
theorem Do.next[?G]{M B0 R B R1 B1 R2 B2:Mat}{t t1:?x}{Y:Nat}[?cS](I:UJ n W w i G R B t1 Y R1 B1)(D:On n W w i R1 B1 t1 0 R2 B2):Do n W w ?j G M B0 t1 R2 B2 :=
 ⟨((h.good.mono O9m).trans I.good).trans D.good,⟨?yV I.lt,D.s0.inc,D.s0.zero,?pX,fun k j h1 h2=>D.red k j ?K h1 O9m⟩,?yV I.pg⟩
theorem Do.rows{n W w:Nat}[?a8][?f](h:?r8)(hw:w<=W):Ee n w M R:=by
 have e:=h.good.eqv n ?h;have cut:∀{S:Mat}{v:?i},In W n S v->In w n S v:=fun⟨x,hx⟩=>⟨x,fun c hc=>hx c O9m⟩
 refine⟨fun i hi=>cut (e.1 i hi),fun i hi=>cut (e.2 i hi),?_⟩
 obtain⟨r,hr,h1,h2⟩:?wL:=by
  have:?w7:=by
   intro m
   induction m with
   | zero=>ext xH
   | succ m ih =>
     ext xJ
     . have hrm:r=m:=by
        ext xN;have:=?eT r m y O9m;omega
       exact⟨m+1,?cL,fun j hj=>by
        by_cases q:j=m
        . rw[q];exact z
        . exact b j O9m,?k9⟩
     . exact⟨r,O9m,b,fun j h1 h2=>by
        by_cases q:j=m
        . rw[q];omega
        . exact ?uF⟩
  exact ?w3
 exact⟨r,t,hr,?tZ,?oD⟩
noncomputable def unit(e:Int)(j:Nat):?i:=fun c=>if c=j then e else 0
noncomputable abbrev tr(T:Mat):Mat:=fun i j=>T j i
structure Ii(n w r:Nat)(e:Int)(T:Mat):Prop where
 rn:?dB
 rw:?e0
 row0:?t2
 col0:?q3
 rows:?tF
 cols:?w4
theorem Ii.flip[?j2](h:?h8):Ii w n r e ?c4:=⟨h.rw,h.rn,fun i c h1 h2 h3=>?mU c i h3 h1 h2,fun i c h1 h2 h3=>h.row0 c i h2 h3 h1,h.cols,h.rows⟩
theorem Sl{n w r r':Nat}{e:Int}{T:Mat}[?f](he:0<e)(hr:?e0)(hr':r'<=n)(hst:Db w r' T t)(hz:∀i c,r'<=i->?pV)[?xD] :
 r'=r/\(?mS)/\?gT:=by
 have tl:∀j,j<r'->t j<r:=fun j hj=>by
  ext g6;have p:=?gQ;rw[hc j ?p ?c z (?c3 j hj)]at p;omega
 have main:∀j,j<=r->j<=r'/\(∀k,k<j->t k=k)/\∀k,k<j->?W∣e:=by
  intro j
  induction j with
  | zero=>intro _;exact⟨?bK,?t3,?t3⟩
  | succ j ih =>
    intro hj;obtain⟨a,b,c⟩:=?bI;obtain⟨x,hx⟩:=(Lh j O9m).sub hr' hz;have v0:∀k,k<j->?P e j ?a1=0:=fun k hk=>by rw[b k hk];exact ?e O9m
    obtain⟨x0,x1⟩:=?n2 hx j a v0;have ej:?lR=e:=?o
    have lt:j<r':=by
     ext g6
     have:?lR=0:=by
      rw[?t5];exact ?zH ?c
     omega
    have tj:t j=j:=by
     refine qi1 ?iF (?eM j lt)
     have:?lR=0:=by
      rw[?t5];refine Bi ?iJ;by_cases e1:k<j
      . rw[x0 k e1];simp
      . rw[?dT k j hk (qb3 z (?q5 j k ?c hk))];simp
     omega
    have d:=x1 lt;rw[tj,ej]at d;refine⟨lt,?iJ,?iJ⟩
    . by_cases e1:k=j
      . rw[e1];exact tj
      . exact b k O9m
    . by_cases e1:k=j
      . rw[e1];exact⟨x j,by rw[d,qf4]⟩
      . exact c k O9m
 obtain⟨a,b,c⟩:=main r ?h;refine⟨qi1 ?iF a,b,c⟩;have:=tl r z;have:=?eM r z;omega
theorem Xu[?j2][?f](HF:?dB)(hrw:?e0)[?xP][?xD]:?w4:=by
 have ch:∀j,∃x:?i,j<r->∀c,c<w->?tW=?y4 ?d2 r:=fun j=>by
  by_cases hj:j<r
  . obtain⟨x,hx⟩:=(Lh j hj).sub HF hz;exact ?vS
  . exact⟨?fF,fun z=>?fP z hj⟩
 obtain⟨X,hX⟩:∃X:?qR,∀j,j<r->∀c,c<w->?tW=Am (fun k=>X j k*?d2) r:=Classical.axiomOfChoice ch
 have key:∀i,i<r->∀j,j<r->Am (fun c=>?bZ*X c j) r=?vP:=by
  intro i hi
  have hz0:∀c,c<w->(?tS) c=?t6:=by
   intro c hcw
   have e1:?t6=Am (fun j=>Am (fun d=>?jZ*?fX) r+?bU*((if j=i then 1 else 0)*(e*?fX))) r:=by
    refine Al fun j _=>?_;rw[Int.sub_mul,←Hu];by_cases z:i=j
    . subst z;rw[?o,?o];omega
    . rw[?V,?e fun y=>z y.symm];omega
   rw[e1,C5,Bg,Dc (fun j=>e*?fX) i r,?n hi,C9]
   have e2:Am (fun d=>Am (fun j=>?jZ*?fX) r) r=Am (fun d=>T i d*?P e d c) r:=by
    refine Al ?jN;rw[hX d hd c hcw,←Bg];exact Al fun j _=>qf6 ..
   rw[e2];show ?c8=_;by_cases hcr:c<r
   . rw[?aW (j:=c) hcr fun d hd hne=>by show ?zK 0;rw[?e ?m7];simp];show ?c8=?bZ*(if c=c then e else 0)+-1*(e*?bZ);rw[?o,qf4];omega
   . rw[Bi fun d hd=>by show ?zK 0;ext aX;simp,hc i c ?c ?c hcw];simp
  obtain⟨a,_⟩:=?n2 hz0 r ?h ?hF;intro j hj;have:=a j hj;omega
 intro i hi;refine⟨fun c=>if c<r then X c i else 0,fun c hcn=>?_⟩;show ?P e i c=?tQ
 have e1:?tQ=?vR:=by
  have:∀m,r<=m->m<=w->?yM m=?vR:=by
   intro m
   induction m with
   | zero =>
     intro h1 _;have:r=0:=O9m
     subst this;rfl
   | succ m ih =>
     intro h1 h2;by_cases q:r=m+1
     . subst q;refine ?jF;rw[?n hk,qf4]
     . show Am _ m+(if m<r then X m i else 0)*T c m=_;rw[ih ?c ?c,?l];simp
  exact ?H w hrw ?h
 rw[e1];by_cases hcr:c<r
 . rw[key c hcr i hi];rfl
 . rw[Bi fun k hk=>by rw[hz c k ?c hcn ?c];simp];exact ?e O9m
theorem Ee.square{n w r:Nat}{e:Int}{T T':Mat}(s:?kJ)[?j3]:Ii n w r e T'/\∃t,?sO/\(?mS)/\∀j,j<r->T' j j∣e:=by
 obtain⟨r',t,hr',hst,hz⟩:=s.st
 have hc:∀i c,i<n->r<=c->?oE:=fun i c hi h1 h2=>by
  obtain⟨x,hx⟩:=s.fwd i hi;rw[hx c h2];exact Bi fun k hk=>by rw[?mU k c hk h1 h2];simp
 have Lh:∀j,j<r->In w n T' ?uS:=fun j hj=>(h.rows j hj).trans s.bwd;obtain⟨e1,e2,e3⟩:=Sl he h.rw hr' hst hz hc Lh;subst e1;exact⟨⟨h.rn,h.rw,hz,hc,Lh,Xu h.rn h.rw hst hz hc Lh⟩,t,hst,e2,e3⟩
theorem KQ[?j2][?f][?j3](hst:?oY)(ht:?mS)(hd:?gT){i c:Nat}(hi:i<n)(hc:c<w):?vY:=by
 by_cases a:i<r
 . by_cases b:c<r
   . have l:=ql9 he (hd c b);rcases qk3 i c with z | z | z
     . have:=hst.red i c z b;rw[ht c b]at this;omega
     . subst z;have:=?hJ i a;rw[ht i a]at this;omega
     . rw[?dT i c a (by rw[ht i a];exact z)];omega
   . rw[?mU i c hi ?c hc];omega
 . rw[h.row0 i c ?c hi hc];omega
theorem HM{n w r:Nat}{T:Mat}[?f](HF:?dB)[?xP]:∀i,i<r->?A4 (?kQ):=by
 have main:∀m i,i<m->m<=r->?A4 (?fC):=by
  intro m
  induction m with
  | zero=>intro i hi;omega
  | succ m ih =>
    intro i hi hm;by_cases q:i<m
    . exact ih i q O9m
    have qi:i=m:=O9m
    subst qi
    have up:∀k,k<=i->In n w ?c4 (fun d=>?yE k):=by
     intro k
     induction k with
     | zero=>intro _;exact ?hE ..
     | succ k ihk =>
       intro hk;have hk2:=ih k O9m O9m
       obtain⟨g,hg⟩:∃g,?dW=?lH*g:=by
        have:∀m,k+1<=m->∃g,?wD=?lH*g:=by
         intro m
         induction m with
         | zero=>intro h;omega
         | succ m ihm =>
           intro h;by_cases z:k+1=m+1
           . exact ?vG
           . ext x1
        exact ?qG
       refine((ihk O9m).mix hk2 1 (T k ?aO*g)).congr ?t8;show 1*Am _ k+?zO g ?lH=Am _ k+?zO ?dW 1;rw[hg];by_cases z:d=k
       . rw[?aB,?aB];grind
       . rw[?V,?V];omega
    have col:In n w ?c4 (tr T ?aO):=?v (?c3 i O9m);refine(col.mix (up i ?h) (?dW) ?bU).congr ?jN;show ?dW*T d ?aO+-1*?yE i=?mD;by_cases z:d<i
    . rw[?aW (j:=d) z fun l hl hne=>by rw[?e ?m7];simp,?o];rw[show ?mD=0 from ?l]
      grind
    . rw[Bi fun l hl=>by ext aX;simp];by_cases z2:d=i
      . subst z2;rw[show ?P (?wJ) d d=?wJ from ?o];show _=?g ?bW d*T d (t d);omega
      . rw[show ?mD=0 from ?e z2]
        have:T d ?aO=0:=by
         by_cases z3:d<r
         . exact ?sG z3 O9m
         . exact hz d _ O9m hd (?c3 i O9m)
        ext b7
 intro i hi
 obtain⟨g,hg⟩:∃g,?kQ=?fC*g:=by
  have:∀m,i+1<=m->∃g,?wD=?fC*g:=by
   intro m
   induction m with
   | zero=>intro h;omega
   | succ m ihm =>
     intro h;by_cases z:i+1=m+1
     . exact ?vG
     . ext x1
  exact ?H r hi
 refine((main r i hi ?h).mix (?hE ..) g 0).congr ?t8;show g*(if d=i then ?fC else 0)+0*0=if d=i then ?kQ else 0
 by_cases z:d=i
 . rw[?aB,?aB,hg];grind
 . rw[?V,?V];omega
theorem Vp.square{n w:Nat}{T T' M3:Mat}{r:Nat}[?f][?x5]:?e0/\Ii n w r (?dE) M3/\∃u,Db n r ?hD u/\(?qC)/\∀j,j<r->M3 j j∣ ?dE:=by
 ext xA;obtain⟨q,u,hq,m8,OY⟩:=s2.st
 have hrw:?e0:=by
  by_cases z:r=0
  . omega
  . have:=?eM ?dM O9m;have:=?c3 ?dM O9m;omega
 have hc:∀i c,i<w->r<=c->c<n->tr M3 i c=0:=fun i c hi h1 h2=>by
  obtain⟨x,hx⟩:=s2.fwd i hi;rw[hx c h2];exact Bi fun k hk=>by rw[show tr T' k c=0 from hz c k h1 h2 hk];simp
 have Lh:∀j,j<r->In n w ?hD (?P (?dE) j):=fun j hj=>(HM hr hst hz j hj).trans ?h1;obtain⟨e1,e2,e3⟩:=Sl he hr hq m8 OY hc Lh;subst e1;have sq:Ii w n q (?g (?y8 T' ?p) q) ?hD:=⟨hrw,hr,OY,hc,Lh,Xu hrw hr m8 OY hc Lh⟩
 exact⟨hrw,?k3,u,m8,e2,e3⟩
theorem NC:∀{n:Nat}{A:Mat},(∀r c,r<n->c<n->?u8<=1)->(∀c r r',c<n->r<n->r'<n->?dY≠0->A r' c≠0->r=r')->?tD<=1
 | 0,_,_,_=>by simp[det]
 | n+1,A,h1,h2=>by
   show ?p1<=1;by_cases e:∃r,r<n+1/\A r 0≠0
   . obtain⟨r,hr,hne⟩:=e
     rw[?aW (j:=r) hr fun k hk hkr=>by
      have:A k 0=0:=qg0 fun z=>hkr (h2 0 k r ?c hk hr z hne);ext b7]
     rw[qb1,qb1,W7,qf2]
     have ih:=NC (n:=n) (A:=F6 A r) (fun x c hx hc=>h1 _ _ ?a6 O9m) fun c x x' hc hx hx' a b=>by
      have:=h2 ?M (if x<r then x else x+1) (if x'<r then x' else x'+1) O9m ?a6 ?a6 a b;split at this<;>split at this<;>omega
     exact qa6 (qf0 (h1 r 0 hr O9m) ih) ?c9
   . rw[Bi fun k hk=>by
      have:A k 0=0:=qg0 fun z=>e ⟨k,hk,z⟩;ext b7]
     decide
theorem cL{n p:Nat}(A:Mat)[?b9](a:?i)(U:Mat):∀m,?y1 ?nX=?jY
 | 0=>by
   show ?A2 (B4 A p (?z6 ?c8))=0;exact Tq hp fun c _=>Bn ..
 | m+1=>by
   have e:(fun c=>Am (fun k=>a k*?cG) (m+1))=fun c=>1*(?nX) c+?eU:=?J fun c=>by
    show ?l4+?eU=1*?l4+?eU;omega
   rw[e,Ey A _ _ 1 (a m) hp,cL A hp a U m];show 1*?jY+a m*?y1 (U m)=?jY+a m*?y1 (U m);rw[qd5]
noncomputable def Wn(s:?x):Mat:=fun r l=>if s l=r then 1 else 0
noncomputable def dW(T:Mat)(s:?x)(k:Nat):Mat:=fun r l=>if r<k then Wn s r l else T r ?a7
theorem KR[?n9]{k:Nat}(hk:k<i):?o8=?W*?A6 (dW T s ?aF):=by
 have e0:?jK=B4 (?jK) k fun c=>Am (fun j=>T k j*?iK) ?aF:=by
  funext r c
  by_cases z:r=k
  . subst z;rw[Bn];show ?zP r;ext aX;by_cases y:s c<r+1
    . rw[?aW (j:=s c) y fun j _ hne=>by
       have:?iK=0:=?e ?vX;ext b7]
      have:Wn s ?c1 c=1:=?o;ext b7
    . rw[Bi fun j hj=>by
       have:?iK=0:=?l;ext b7]
      exact h r ?c1 hk O9m
  . rw[Bw z]
 ext xF
 . congr 1
   refine Da ?bY;by_cases z:r=k
   . subst z;rw[Bn];show _=if r<r+1 then ?dJ else ?dH
     ext g5
   . rw[Bw z];show(if r<k then ?dJ else ?dH)=if r<k+1 then ?dJ else ?dH
     by_cases y:r<k
     . ext iZ
     . ext iY
 . ext x9;show(if j<k then ?iK else T j ?c1)=_;ext g5
theorem iW[?n9]:∀k,k<=i->?A6 (?pI)=?kK*?o8
 | 0,_=>by
   show _=1*?A6 (dW T s 0);rw[qd5]
   exact Da fun r c hr hc=>by
    show _=if r<0 then ?dJ else ?dH
    ext aX
 | k+1,hk=>by
   rw[iW h s k ?c,KR h s ?c];ext xQ
theorem WI[?n9]:(?nQ).natAbs<=(?qK).natAbs:=by
 rw[iW h s i ?h,qb1]
 have e:?yD (dW T s i) 1:=by
  have k:∀r c,r<i->dW T s i r c=if s c=r then 1 else 0:=fun r c hr=>by
   show ?zP i;rw[?mA];rfl
  refine NC (?bY) fun c r r' hc hr hr' a b=>?_
  . rw[?w5];split<;>decide
  . rw[?w5]at a;rw[k r' c hr']at b;split at a
    . split at b
      . omega
      . exact ?fP rfl b
    . exact ?fP rfl a
 exact qa6 (qe3 _ e) O9m
noncomputable def Oo(n:Nat)(G:?a2)(M:Mat)(D:Nat):Prop:=∀i,i<=n->∀s:?x,(?wC)->(det i (?yQ M)).natAbs<=D
theorem Do.detsD[?jA][?a8][?f][?j4][?cS](hi:i<=m){s:?x}(hs:?wC):?yD ?lO D:=by
 rw[h.good.det i ?h s];exact hD i hi s hs
theorem Do.headD[?jA][?a8][?f][?j4][?cS](hi:i<=m){j:Nat}(hj:j<i):?bR<=D:=by
 have:=tQ ?lF (?mM hD hi (s:=t) h.pg) hj;have p:=?sR;omega
theorem Do.rowD[?jA][?a8][?f][?j4][?cS](hi:i<=m)[?j5]{r c:Nat}(hr:r<i)(hc:G c):?dV<=i*D:=by
 have:=RE ?lF ?dA (?v hr) (κ:=1) (D:=D) (vK c hc) (?a0) fun k hk=>?mM hD hi ?iS
 . rw[qf2]at this;ext a9
 . rw[qf2];rcases qk3 r j with z | z | z
   . obtain⟨a,b⟩:=?gO r j z hj;omega
   . rw[z];exact ?cL
   . rw[h.st.s0.low hr z];exact ?bK
 . cases l with
   | zero=>exact hc
   | succ l=>exact h.pg _ ?a6
theorem Do.putD[?jA][?a8][?f][?j4][?cS](hm:i<=m)(hi:i<n)[?j5]{b0 π b:Nat}(hM:∀c,G c->(M i c).natAbs<=2 ^ b0)(h1:D<=?A)(h2:i*D<=?t)(h3:b0<=π)(h4:b0<=b):?qX:=by
 refine⟨hi,?mJ,?dA,fun j hj=>qa6 (h.headD hD hm hj) h1,fun r c hr hc=>qa6 (h.rowD hD hm vK hr hc) h2,?dS,?iS⟩
 . rw[?mT i c ?h];exact qa6 (hM c hc) (C7 h4)
 . rw[?mT i _ ?h];exact qa6 (hM _ (h.pg l hl)) (C7 h3)
theorem Ii.free[?j2][?j3]{m:Nat}(hm:m<=r){x:?i}(hx:∀c,c<w->?m1=0):∀k,k<m->x k=0:=by
 intro l hl;obtain⟨y,hy⟩:=h.cols l O9m;have e1:?uB=0:=Bi fun c hc=>by rw[?lM];simp
 have e2:?uB=?y4 ?v5 m:=by
  rw[show(fun c=>y c*?m1)=fun c=>?y4 (y c*?d2) m from ?J fun c=>by
   rw[←Bg];exact Al fun k _=>?s]
  rw[C9];refine ?jF;rw[hy k (by have:=h.rn;omega),←Bg]
 rw[e2,?aW (j:=l) hl fun k _ hne=>by
  have:?v5=0:=?e hne;ext b7]at e1
 have:?P e l l=e:=?o;rw[this]at e1;rcases qp6.mp e1 with z | z
 . exact z
 . omega
theorem QZ[?g9]{e:Int}{T M B0 R B:Mat}[?j3](hM:∀k c,k<n->c<w->M k c=?d2)(hi:i<r)(g:?zW ?j M)(hW:w+n<=W)(d:Fe n w M B0):∃c,c<w/\?cO≠0:=by
 have rn:=h.rn;refine qg0 ?iA;have z0:∀c,?u5:=fun c hc=>qg0 fun y=>z ⟨c,hc,y⟩;obtain⟨x,hx⟩:=(g.eqv ?j ?h).1 i O9m
 have x0:=h.free he (m:=i+1) O9m (x:=x) fun c hc=>by
  rw[←z0 c hc,hx c ?c];exact Al fun k hk=>by rw[hM k c ?c hc]
 obtain⟨c,hc,hne⟩:=(g.dual d).row (i:=i) O9m;refine hne ?_;rw[hx (w+c) ?c];exact ?zH hk
structure Qr(n W w r:Nat)(kt:?x)(hd:?i)(M:Mat):Prop where
 zero:∀j c,?a4->j<n->c<?cY->M j c=0
 inc:∀j k,?a4->j<k->k<n->?cY<kt k
 ge:∀j,?a4->j<n->w<=?cY
 lt:∀j,?a4->j<n->?cY<W
 head:∀j,?a4->j<n->M j ?c0=hd j
 pos:∀j,?a4->j<n->0<hd j
 red:∀k j,?a4->k<j->j<n->0<=M k ?c0/\M k ?c0<hd j
structure Cf(n W w r i:Nat)[?xS][?w][?D]:Prop where
 st:?qB
 tab:∀j,j<r->j<i->t j<w
 ker:∀j,?a4->j<i->t j=?cY/\?z=hd j
theorem Cf.start(n W w r:Nat)[?xS][?w]:Cf n W w r 0 G M B0 kt hd t M B0:=⟨Do.start ..,?oR,?oR⟩
theorem Cf.next[?g9]{G:?a2}{M B0 R B R1 B1 R2 B2:Mat}[?cR]{Y spot st:Nat}(h:?q0)(hi:i<r)(hst:st<w)(hs:?lZ)(I:UJ n W w i G R B ?hP Y R1 B1)(D:On n W w i R1 B1 ?hP 0 R2 B2):?z9 ?hP:=by
 refine⟨h.st.next I D,?m8,?k9⟩;unfold insT;split
 . exact ?rO
 . split
   . exact hst
   . exact h.tab ?dN O9m O9m
theorem Cf.skip[?g9][?a8][?cR][?g0](hn:i<n){spot c:Nat}[?bQ](hc:?fT):?dX:=by
 rw[?rT];refine K.zero i c hi hn ?_;have g:=K.ge i hi hn;by_cases z:?d9
 . have:=h.tab ?d z hs;omega
 . have:=(?iR ?d O9m hs).1;have:=K.inc ?d i O9m hs hn;omega
theorem Qb(R:Mat)(i:Nat):?C R i i=R:=by
 funext r
 ext e8;by_cases a:r<i
 . rw[?n a]
 . rw[?e a];by_cases b:r=i
   . rw[?n b,b]
   . rw[?e b,?l]
theorem Cf.ins[?g9][?a8][?cR]{π b:Nat}[?g0](H:?qX)(hG:G ?bF):UJ n W w i G R B ?a3 (?bN+i*?bD) R B/\?t9:=by
 have all:?t9:=by
  intro spot
  induction spot with
  | zero=>intro _;exact Dj.start H
  | succ s ih=>intro hs;exact(?bI).skip fun c hc=>h.skip K hi ?b5 O9m hc
 refine⟨?_,all⟩;have e:R i ?bF=hd i:=by ext nG;exact K.head i hi ?b5
 have p:=K.pos i hi ?b5;have:=(all i ?h).ins H ?h (st:=kt i) (fun c hc=>by rw[?rT];exact K.zero i c hi ?b5 hc) O9m (K.lt i hi ?b5) hG h.st.pg (fun z=>O9m);rw[Qb,Qb,?l,?l]at this;ext a9
theorem Cf.nextK[?g9]{G:?a2}{M B0 R B R2 B2:Mat}[?cR]{Y:Nat}[?g0](hn:i<n)(I:UJ n W w i G R B ?a3 Y R B)(D:On n W w i R B ?a3 0 R2 B2):?z9 ?a3:=by
 ext xC;ext n4
 refine⟨h.st.next I D,fun j h1 h2=>by rw[?uG];exact ?rO,?m8⟩;rw[D.hd j ?c];by_cases z:j=i
 . rw[z,t2];exact⟨rfl,by ext nG;exact ?tO⟩
 . rw[?uG];exact ?iR j h1 O9m
theorem Cf.done{n W w r:Nat}[?a8][?cR](K:?rF)(h:?zF n):Qr n W w r kt hd R:=by
 refine⟨fun j c h1 h2 h3=>?_,K.inc,K.ge,K.lt,?m8,K.pos,fun k j h1 h2 h3=>?_⟩
 . rw[←(?sY).1]at h3;exact h.st.st.zero j c h2 h3
 . obtain⟨a,b⟩:=?sY;rw[←a];exact b
 . obtain⟨a,b⟩:=?iR j h1 h3;rw[←a,←b];exact ?oJ k j h2 h3
noncomputable def eO(V Z:Mat)(k:Nat):Mat:=fun r l=>if r<k then Z r l else V r l
theorem lG[?xB]{k:Nat}(hk:k<i):?l3=?W*?zR ?aF:=by
 have e0:?l3=?A6 (B4 (eO V Z k) k fun c=>Am (fun j=>T k j*Z j c) ?aF):=Da fun r c hr hc=>by
  by_cases z:r=k
  . subst z;rw[Bn];show(if r<r then ?fD else ?d1)=_;ext aX;exact ?h0
  . rw[Bw z]
 ext xF
 . congr 1
   refine Da ?bY;by_cases z:r=k
   . subst z;rw[Bn];show _=if r<r+1 then ?fD else ?d1
     ext g5
   . rw[Bw z];show(if r<k then ?fD else ?d1)=if r<k+1 then ?fD else ?d1
     by_cases y:r<k
     . ext iZ
     . ext iY
 . ext x9;show(if j<k then Z j c else V j c)=_;ext g5
theorem BG[?xB]:∀k,k<=i->?A6 V=?kK*?l3
 | 0,_=>by
   show _=1*?zR 0;rw[qd5]
   exact Da fun r c hr hc=>by
    show _=if r<0 then ?fD else ?d1
    ext aX
 | k+1,hk=>by
   rw[BG h k ?c,lG h ?c];ext xQ
theorem AQ{w r:Nat}{U V:Mat}(hw:?e0)(hU:∀k c,k<r->c<k->?cG=0)(hV:∀l,l<r->In w r U (V l))(h0:∀l i,l<r->i<r->l<i->V l i=0):?A1 U r∣ ?qP:=by
 have ch:∀l,∃x:?i,l<r->∀c,c<w->V l c=?y4 ?cG r:=fun l=>by
  by_cases hl:l<r
  . obtain⟨x,hx⟩:=hV l hl;exact ?vS
  . exact⟨?fF,fun z=>?fP z hl⟩
 obtain⟨X,hX⟩:∃X:?qR,∀l,l<r->∀c,c<w->V l c=Am (fun k=>X l k*?cG) r:=Classical.axiomOfChoice ch;have e1:det r (tr V)=?qP:=Xi (A:=tr V) fun i l hi hl=>h0 l i O9m hi hl;have e2:=BG (i:=r) (T:=tr U) (V:=tr V) (Z:=tr X) (fun i l hi hl=>?_) r ?h
 . rw[e1]at e2;exact⟨_,e2⟩
 . show V l i=_;rw[hX l hl i ?c]
   have:∀m,m<=r-?j->?w9=Am (fun j=>tr U i j*tr X j l) ?j:=by
    intro m
    induction m with
    | zero=>intro _;exact Al fun k _=>?kN
    | succ m ih =>
      intro hm;show ?w9+X l ?gV*U ?gV i=_;rw[?fA,hU ?gV i ?c ?c];omega
   have:=?H (r-?j) ?h;rw[show i+1+(r-?j)=r by omega]at this;ext a9
theorem Ye[?S]{n:Nat}(h:?mX):∀m,m<=n->?aU<=?cD:=fun m hm=>by
 have:∀d,m+d<=n->?aU<=?iG:=by
  intro d
  induction d with
  | zero=>intro _;exact ?vU _
  | succ d ih =>
    intro hd;refine qt8 (?bI) ?_;show ?iG<=?iG*f ?gL;have p:=Cy (n:=m+d) ?e5;have q:=h ?gL O9m;have:=ql0 (show 1<=f ?gL by omega) (?z1 0 ?iG);rw[qn1]at this;ext a9
 have:=?H (n-m) O9m;rw[show m+(n-m)=n by omega]at this;ext a9
theorem OR{w r:Nat}{T:Mat}{E:Nat}(hp:?tN)(h:∀i c,i<r->?pE)[?xW]:?oP:=fun i hi s hs=>by
 have t:=WI (i:=i) (T:=?h7) (fun a c ha hac=>by
  show(?o6)=0;by_cases z:c<w
  . rw[?aB];exact h a c O9m z hac
  . rw[?V]) s
 have e:(?nQ)=det i (?yQ (?h7)):=Da fun a c ha hc=>(?n (hs c hc)).symm;rw[e];refine qa6 t ?_;by_cases z:i<=w
 . have e2:?qU=?qK:=by
    have:∀m,m<=w->?vE=?g ?eI m:=by
     intro m
     induction m with
     | zero=>intro _;rfl
     | succ m ih =>
       intro hm;show _*_=_*_;rw[?fA];show ?zJ _;ext g5
    exact ?H i z
   rw[e2];have a:=Ye (n:=r) (f:=?gJ) hp i hi;have b:=Cy (n:=i) (f:=?gJ) fun k hk=>hp k O9m;omega
 . have e2:?qU=0:=by
    have:∀m,w<m->?vE=0:=by
     intro m
     induction m with
     | zero=>intro _;omega
     | succ m ih =>
       intro hm;show ?zJ 0;by_cases y:w<m
       . rw[ih y];simp
       . ext aX;simp
    exact ?qG
   rw[e2];exact ?bK
structure Fb(n w r:Nat)(E:Nat)(e:Int)(T:Mat):Prop where
 sq:?h8
 low:∀i c,i<n->?pE
 pos:?tN
 dvd:?gT
 prod:?g ?eI r<=E
 le:∀i c,i<n->c<w->?vY
 red:∀k j,k<j->j<r->0<=T j k/\T j k<?hA
theorem eY[?g2]{T:Mat}{u:?x}(he:0<e)(sq:?h8)(hst:Db n r ?c4 u)(hu:?qC)(hd:?gT)[?xW]:?wX:=by
 refine⟨sq,fun i c hi hc hic=>?_,?a0,hd,hE,fun i c hi hc=>KQ he ?k3 hst hu hd hc hi,fun k j hk hj=>by
  have:=hst.red k j hk hj;rw[hu j hj]at this;ext a9⟩
 . by_cases z:c<r
   . exact ?dT c i z (by rw[hu c z];exact hic)
   . exact sq.col0 i c hi O9m hc
 . have:=?gQ;rw[hu j hj]at this;ext a9
theorem Ee.going[?g2]{T T':Mat}(s:?kJ)(he:0<e)[?eA]:Fb w n r E e (tr T'):=by
 obtain⟨sq,t,hst,ht,hd⟩:=s.square he h.sq;have pos:∀j,j<r->0<T' j j:=fun j hj=>by have:=?gQ;rw[ht j hj]at this;ext a9
 refine eY he ?k3 hst ht hd ?_;have rn:=h.sq.rn;have rw':=h.sq.rw;have d:=AQ (w:=w) (r:=r) (U:=T') (V:=T) rw' (?yP ?dT ht) (fun l hl=>(s.bwd l O9m).sub rn sq.row0) (fun l i hl hi hli=>?bH l i O9m O9m hli);have p:=Cy (n:=r) (f:=?gJ) ?Z;exact qt8 (ql9 p d) h.prod
theorem Vp.going[?g2][?nJ](he:0<e)[?eA]:Fb n w r E e M3:=by
 obtain⟨T',s1,s2⟩:=s;exact s2.going he (s1.going he h)
theorem Vp.first{n w r:Nat}{E:Nat}{T T' M3:Mat}[?f][?x5](hE:?dE<=E):Fb n w r E (?dE) M3:=by
 obtain⟨hw,sq,u,hu,YB,hd⟩:=Vp.square (T:=T) hr hst hz s2;ext xA;refine eY he sq hu YB hd ?_;have d:=AQ (w:=n) (r:=r) (U:=tr M3) (V:=fun l i=>T' i ?m) hr (?yP hu.zero YB) (fun l hl=>(?h1 ?m (?c3 l hl)).sub hw sq.flip.row0) (fun l i hl hi hli=>?sG hi hli);exact qt8 (ql9 he d) hE
theorem Fb.dets[?g2]{T:Mat}[?eA]:?oP:=OR ?Z (fun i c hi=>?bH i c (by have:=h.sq.rn;omega)) h.prod
noncomputable def MO(n w r L m:Nat)(T:Mat):Prop:=?kR\/(∃k,k<=r/\?rE/\?qW<=m)\/(∃k,k<r/\?oX/\(r-k-1)*?f6+(?W).natAbs.log2+1<=m)
theorem Fb.straight[?g2]{T:Mat}[?eA](c:M7 n w r T):?kR:=fun i j hi hj hne=>by
 by_cases z:i<r
 . exact c.2.2.2.1 i j z hj (?m7)
 . exact h.sq.row0 i j O9m hi hj
theorem log2_lt{a b:Nat}(ha:0<a)(h:a∣b)(hlt:a<b):a.log2<b.log2:=by
 obtain⟨k,hk⟩:=h
 have k2:2<=k:=by
  rcases k with _ | _ | k
  . omega
  . omega
  . omega
 have b2:2*a<=b:=by
  rw[hk,?w6 2 a];exact qe3 _ k2
 have e:?pG=a.log2+1:=Nat.log2_two_mul O9m
 have m:?pG<=b.log2:=by
  rw[Nat.le_log2 ?c];exact ?zM b2
 omega
theorem MO.start{n w r L:Nat}{E:Nat}{e:Int}{T:Mat}[?eA]:MO n w r L (r*?f6) T:=?aM (?aR ⟨0,?bK,⟨?bK,?bK,?eO,?mV,fun i j _ hj=>O9m⟩,by rw[qw3];exact ?cL⟩)
theorem Fb.next{n w r L m:Nat}{E:Nat}{e:Int}{T M3:Mat}(he:0<e)(hL:e.natAbs.log2<=L)[?eA](s:?uL)(f:MO n w r L m T)(ns:¬?kR):0<m/\MO n w r L (m-1) M3:=by
 have g:=s.going he h;rcases f with f|⟨k,hk,c,hm⟩|⟨k,hk,c,hm⟩
 . exact ?fP f ns
 . have kr:k<r:=by
    refine Nat.lt_of_le_of_ne hk fun z=>ns ?_;subst z;exact h.straight c
   have e1:?qW=(r-k-1)*?f6+?f6:=by rw[show r-k=(r-k-1)+1 by omega,qf5,qf2,Nat.add_sub_cancel]
   refine ?oQ;obtain⟨c2,q⟩:=s.next c;rcases q with q | q
   . exact ?aR q
   . refine ?aM (?aM ⟨k,kr,q,?_⟩);have d:=h.dvd k kr;have d2:=g.dvd k kr;have p:=g.pos k kr
     have l:(?fQ).natAbs.log2<=L:=by
      refine qa6 ?_ hL;rw[Nat.le_log2 ?c];refine ?zM ?_;have:=ql9 he d2;omega
     omega
 . refine ?oQ;rcases s.less c with q|⟨q1,q2,q3⟩
   . refine ?aM (?aR ⟨k+1,O9m,q,?_⟩);rw[show r-?aF=r-k-1 by omega];omega
   . refine ?aM (?aM ⟨k,hk,q1,?_⟩);have p:=g.pos k hk;have p0:=?mE;have:=log2_lt (a:=(?fQ).natAbs) (b:=(?W).natAbs) O9m (qt7.mpr q2) O9m;omega
universe Lat
namespace Lat
structure zH[?nH]:Prop where
 e1:r1=x1*A+y1*B
 e2:r2=x2*A+y2*B
 dt:?eG=1\/?eG=-1
 dv:∀d:Int,d∣r1->d∣r2->d∣A/\d∣B
structure ZY[?nH]:Prop where
 a:?lG
 rr:0<=r1*r2
 r0:?mC
 xx:x1*x2<=0
 yy:y1*y2<=0
 lx:?wE
 ly:?vN
theorem iX{u v:Int}(h:0<=u*v):(u+v).natAbs=u.natAbs+v.natAbs:=by
 rcases Int.lt_trichotomy u 0 with z | z | z
 . have:v<=0:=by
    ext cT;have:=?rV z y;omega
   omega
 . subst z;omega
 . have:0<=v:=by
    ext cT;have:=?sI z y;omega
   omega
theorem ZY.next_le[?g1](h:?n1):?oS:=by
 have r1p:1<=r1.natAbs:=by have:=h.r0;omega
 have hA:A.natAbs=(?t1).natAbs:=by
  have e:(?eG)*A=?t1:=?tM
  rcases h.a.dt with d | d
  . rw[d,qd5]at e;rw[e]
  . rw[d]at e;have:A.natAbs=(-1*A).natAbs:=O9m
    rw[this,e]
 have hB:B.natAbs=(?mH).natAbs:=by
  have e:(?eG)*B=-(?mH):=?tM
  rcases h.a.dt with d | d
  . rw[d,qd5]at e;rw[e,qc4]
  . rw[d]at e;have:B=?mH:=O9m
    rw[this]
 have k1:0<=?nU:=by
  have:?nU=(-(y1*y2))*(r1*r2):=?s
  rw[this];exact qj6 (by have:=h.yy;omega) h.rr
 have k2:0<=?oV:=by
  have:?oV=(-(x1*x2))*(r1*r2):=?s
  rw[this];exact qj6 (by have:=h.xx;omega) h.rr
 rw[iX k1,qb1]at hA;rw[iX k2,qb1]at hB;have a1:x2.natAbs*1<=x2.natAbs*r1.natAbs:=?u2;have a2:y2.natAbs*1<=y2.natAbs*r1.natAbs:=?u2;omega
theorem zH.step[?g1](h:?lG)(q:Int):zH A B r2 x2 y2 (r1-q*r2) (x1-q*x2) (y1-q*y2):=by
 refine⟨h.e2,?_,?_,fun d h1 h2=>h.dv d ?_ h1⟩
 . rw[h.e1,h.e2];grind
 . have:x2*(y1-q*y2)-(x1-q*x2)*y2=-(?eG):=?s
   rw[this];rcases h.dt with z | z<;>rw[z]<;>omega
 . have:=?o2 h2 (qr6 (a:=d) (b:=q) h1);have e:r1-q*r2+q*r2=r1:=O9m
   rw[e]at this;ext a9
theorem aU{r1 r2:Int}(h:0<=r1*r2)(h2:?k4):0<=?b4/\?mF/\0<=r2*(?eE):=by
 have e:?eE=?pP:=?zD r1 r2
 rw[e];rcases ?uR h2 with z | z
 . have r1n:r1<=0:=by
    ext cT;have:=?sI y z;omega
   have q:?b4=(-r1).fdiv (-r2):=by rw[Int.neg_fdiv_neg]
   have m:?pP=-((-r1).fmod (-r2)):=?wA
   have m0:=qs8 (a:=-r1) (b:=-r2) O9m;have m1:=qv4 (-r1) (b:=-r2) O9m;refine⟨?_,O9m,?_⟩
   . rw[q,?nV];exact ?rP O9m O9m
   . rw[m];have:r2*-((-r1).fmod (-r2))=(-r2)*(-r1).fmod (-r2):=by rw[Int.mul_neg,qn0]
     rw[this];exact ?p0
 . have r1p:0<=r1:=by
    ext cT;have:=?rV y z;omega
   have m0:=qs8 (a:=r1) (b:=r2) z;have m1:=qv4 r1 z;refine⟨?_,O9m,?p0⟩;rw[?nV];exact ?rP r1p O9m
theorem ZY.step[?g1](h:?n1)(h2:?k4):?yH ZY:=by
 obtain⟨q0,q1,q2⟩:=aU h.rr h2;obtain⟨l1,l2⟩:=h.next_le;generalize ?b4=q at *;refine⟨⟨h.a.step q,q2,h2,?_,?_,l1,l2⟩,q1⟩
 . have:x2*(x1-q*x2)=x1*x2-?vZ:=?s
   rw[this];have a:=h.xx;have b:0<=?vZ:=qj6 q0 (by rw[←?sC (a:=x2)];omega);omega
 . have:y2*(y1-q*y2)=y1*y2-?rA:=?s
   rw[this];have a:=h.yy;have b:0<=?rA:=qj6 q0 (by rw[←?sC (a:=y2)];omega);omega
noncomputable def EuI[?nH]:Prop :=
 ?n1\/(B<0/\r1=A/\x1=1/\y1=0/\r2=B/\x2=0/\y2=1) ∨
 (B<0/\r1=B/\x1=0/\y1=1/\r2=?hL/\x2=1/\y2=-(?F))
theorem EuI.start{A B:Int}[?nM]:EuI A B A 1 0 B 0 1:=by
 rcases ?uR hB with z | z
 . exact ?aM (?aR ⟨z,rfl,rfl,rfl,rfl,rfl,rfl⟩)
 . refine ?aR ⟨?q1,qj6 O9m O9m,O9m,O9m,O9m,O9m,O9m⟩
theorem Ps{A B:Int}(hA:0<A)(hB:B<0):?F<=-1/\-A<=?F/\?hL<=0/\(?hL).natAbs<B.natAbs:=by
 have e:?hL=A.fmod B:=?zD A B
 have m:A.fmod B=-((-A).fmod (-B)):=?wA
 have m0:=qs8 (a:=-A) (b:=-B) O9m;have m1:=qv4 (-A) (b:=-B) O9m;have k:?F*B=A-A.fmod B:=O9m
 rw[e]
 have q1:?F<=-1:=by
  ext cT;have:=qj6 (?z1 0 ?F) (?zB B);rw[Int.mul_neg]at this;omega
 refine⟨q1,?_,O9m,O9m⟩;ext cT;have h:=?yT (show 1<=-B by omega);have h2:-(?F)*-B=?F*B:=by rw[Int.neg_mul_neg]
 rw[h2]at h;have h3:=?yT (?vU (-B));rw[h2,qs4]at h3;have h4:A*1<=A*-B:=?vV;omega
theorem EuI.step[?g1](hA:0<A)[?xX](h2:?k4) :
 ?yH EuI:=by
 ext x8
 . exact⟨?aR (?s5).1,(?s5).2⟩
 . subst e1 e2 e3 e4 e5 e6;obtain⟨_,_,_,q⟩:=?kL;exact⟨?aM (?aM ⟨hB,rfl,rfl,rfl,rfl,O9m,O9m⟩),q⟩
 . obtain⟨q1,q2,q3,q4⟩:=?kL;ext x7
   have e7:=?uY;rw[←e4]at e7 q3 q4
   have rr:0<=B*r2:=by
    have:=qj6 (?zB B) (?zB r2);rw[Int.neg_mul_neg]at this;ext a9
   obtain⟨p0,p1,p2⟩:=aU rr h2
   have p3:1<=?l2:=by
    ext cT;have:?l2=0:=O9m
    rw[this]at p1;omega
   have f1:?bA-?F*0=x2:=O9m
   have f2:?c8-?F*1=y2:=O9m
   rw[f1,f2]at e7;have e8:=e7.step (?l2);subst e1 e2 e3;refine⟨?aR ⟨e8,p2,h2,?_,?_,O9m,O9m⟩,p1⟩
   . subst e5;omega
   . generalize ?b4=p at *;have g1:y2*(1-p*y2)=-((p*y2-1)*y2):=?s
     rw[g1];have g2:1*y2<=p*y2:=qj3 p3 O9m;have:=qj6 (show 0<=p*y2-1 by omega) (?z1 0 y2);omega
theorem EuI.all[?g1][?nM][?xX] :
 ?lG/\?mC/\?wE/\?vN/\?oS:=by
 ext x7
 ext x8
 . exact⟨h.a,h.r0,h.lx,h.ly,h.next_le.1,h.next_le.2⟩
 . subst e1 e2 e3 e4 e5 e6;exact⟨e0,O9m,O9m,O9m,O9m,O9m⟩
 . obtain⟨q1,q2,q3,q4⟩:=?kL;have e7:=?uY;have f1:?bA-?F*0=x2:=O9m
   have f2:?c8-?F*1=y2:=O9m
   rw[f1,f2,←e4]at e7;subst e1 e2 e3;exact⟨e7,O9m,O9m,O9m,O9m,O9m⟩
structure Shares(A B g a b:Int):Prop where
 pos:0<g
 e:g=a*A+b*B
 dA:g∣A
 dB:g∣B
 la:a.natAbs<=B.natAbs
 lb:b.natAbs<=A.natAbs
theorem EuI.last{A B r1 x1 y1 x2 y2:Int}[?nM](h:?yI EuI 0) :
 (0<r1->?iM A B r1 x1 y1)/\(r1<0->?iM A B (-r1) (-x1) (-y1))/\?mC:=by
 obtain⟨k,r0,a1,a2,_,_⟩:=h.all hA hB;obtain⟨d1,d2⟩:=k.dv r1 (Int.dvd_refl _) (Int.dvd_zero _);refine⟨fun p=>⟨p,k.e1,d1,d2,a1,a2⟩,fun p=>⟨O9m,?_,?sZ d1,?sZ d2,O9m,O9m⟩,r0⟩;rw[k.e1,qn0,qn0];omega
theorem Shares.blend{A B g a b:Int}{π:Nat}(hA:0<A)(h:?vD)(lA:A.natAbs<=?A)(lB:B.natAbs<=?A):kG π A B a b (-(B / g)) (?fV):=by
 obtain⟨p,eA⟩:=h.dA;obtain⟨q,eB⟩:=h.dB;have g0:g≠0:=?lD
 have k1:?fV=p:=?kY
 have k2:B / g=q:=?wF
 have gn:1<=g.natAbs:=?lD
 have n1:p.natAbs<=A.natAbs:=by rw[eA,qb1];exact ?vH
 have n2:q.natAbs<=B.natAbs:=by rw[eB,qb1];exact ?vH
 rw[k1,k2];refine⟨?_,by have:=h.pos;have:=h.e;omega,?_,qa6 h.la lB,qa6 h.lb lA,O9m,O9m⟩
 . have e:=h.e
   have:g*(a*p-b*-q)=g*1:=by
    rw[qn1];refine Eq.trans ?_ e.symm;rw[eA,eB]
    grind
   exact Int.eq_of_mul_eq_mul_left g0 ?H
 . rw[eA,eB]
   grind
universe Lat
namespace Lat
open Hb
noncomputable def Q9(n:Nat)(C:?a2)(δ b:Nat)(R:Mat):Prop:=∀r c,r<n->C c->?dV*?eY<?t
theorem Qh{x y a k:Int}{δ b c:Nat}(hx:?sF<?t)(hy:?oC<?t)(ha:a.natAbs<=?q)(hk:k.natAbs<=?q):?rX*?eY<2 ^ (b+c+1):=by
 have e:=?qN;rw[qb1,qb1]at e;have e2:=qb7 (?eY) e;rw[qf5,Nat.mul_assoc,Nat.mul_assoc]at e2;have p:0<?q:=Nat.two_pow_pos c;have u:a.natAbs*(?sF)<?q*?t:=qb8 (qb7 _ ha) (qp9 hx p);have v:k.natAbs*(?oC)<?q*?t:=qb8 (qb7 _ hk) (qp9 hy p);rw[?kF,qg6,qd7];omega
theorem Q9.mono{n δ b b':Nat}[?nC](hb:b<=b'):Q9 n C δ b' R:=?wM
theorem Q9.add{n δ b c p q:Nat}[?nC][?nE]:Q9 n C δ (b+c+1) ?cP:=fun r x hr hx=>by
 by_cases e:r=p
 . subst e;rw[Cl];exact Qh (h r x hr hx) (h q x hq hx) (show 1<=?q from qj9) (qd8 hk)
 . rw[C4 e];exact(h.mono O9m) r x hr hx
theorem Q9.blend{n δ b e p q:Nat}[?nC][?R][?x6]:Q9 n C δ (b+e+1) (?u R p q x y z u):=fun r c hr hc=>by
 by_cases e1:r=p
 . subst e1;rw[?b0];exact Qh ?dL (h q c hq hc) (qd8 hx) (qd8 hy)
 . by_cases e2:r=q
   . subst e2;rw[Ir];exact Qh (h p c hp hc) ?dL (qd8 hz) (qd8 hu)
   . rw[?rS];exact(h.mono O9m) r c hr hc
variable[?g7]
noncomputable def BB(n W:Nat)(C:?a2)(δ β:Nat)[?cX]:Prop:=?aS n W β s.1/\?aS n n β s.2/\Q9 n C δ β s.1
theorem BB.mono{n W β β':Nat}[?nF](hb:β<=β'):?xY β' s:=⟨h.1.mono hb,h.2.1.mono hb,h.2.2.mono hb⟩
noncomputable def addS(p q:Nat)(k:Int)[?cX]:?dQ:=(?k s.1 p q k,?k s.2 q p (-k))
noncomputable def blendS(p q:Nat)(x y z u:Int)[?cX]:?dQ:=(?u s.1 p q x y z u,?u s.2 p q u (-z) (-y) x)
theorem BB.add{n W β c p q:Nat}[?nF][?b9][?nE]:?xY ?o9 (?cK p q k s) :=
 ⟨(h.1.add hp hq hk).mono O9m,(h.2.1.add hq hp (k:=-k) (by rw[qc4];exact hk)).mono O9m,(h.2.2.add hq hk).mono O9m⟩
theorem BB.blend{n W β c p q:Nat}[?nF][?R]{x y z u:Int}(hx:?uC)(hy:y.natAbs<?q)(hz:z.natAbs<?q)(hu:u.natAbs<?q):?xY ?o9 (blendS p q x y z u s) :=
 ⟨(h.1.blend hp hq ne hx hy hz hu).mono O9m,(h.2.1.blend hp hq ne (x:=u) (y:=-z) (z:=-y) (u:=x) hu (by rw[qc4];exact hz) (by rw[qc4];exact hy) hx).mono O9m,(h.2.2.blend hp hq ne hx hy hz hu).mono O9m⟩
noncomputable def shrS[?w](p f:Nat)[?cX]:?vT
 | 0=>s
 | d+1=>?cK p ?b3 (-((?jV).1 p ?fK / (?jV).1 ?b3 ?fK)) (?jV)
theorem JA[?jB][?aZ][?f]{p f m μ β c:Nat}(P:?iL)[?xI][?xT](hc:2 ^ (m-f)*μ<?q)(b:?wG) :
 ∀d,f+d<=m->MS n W w lo R B t p f m ?b3 μ ?dK (?hB).2/\?xY (β+d*?M) (?hB)/\∀l c,l≠p->?dK l c=R l c:=by
 intro d
 induction d with
 | zero=>intro _;exact⟨?uH h,b.mono O9m,?d8⟩
 | succ d ih =>
   intro hd;obtain⟨i1,i2,i3⟩:=?bI;obtain⟨q1,q2⟩:=i1.step P O9m (show f+d<m by omega) hp hm hn hpf;have e:?vK=R ?b3 ?fK:=i3 _ _ O9m
   have qb:(-(?dK p ?fK / ?vK)).natAbs<?q:=by
    rw[qc4,e];refine qb8 q1 (qb8 ?_ hc);exact ?uQ
   refine⟨?_,(i2.add O9m O9m qb).mono (?tC),fun l c hl=>?_⟩
   . show MS n W w lo R B t p f m (f+d+1) μ (?k ?dK p ?b3 _) (?k (?hB).2 ?b3 p _);rw[e,qm9];exact q2
   . show ?k ?dK p ?b3 _ l c=_;rw[C4 hl];exact i3 l c hl
theorem MZ[?G][?aZ][?f][?nN][?nK][?n7][?nA][?nI] :
 ∀d,?fI->z7 n W w i G R B t b p ?d μ ?bV ?l0 (?hZ).2:=by
 intro d
 induction d with
 | zero=>intro _;exact z7.start h
 | succ d ih =>
   intro hd;have i1:=?bI;obtain⟨q1,q2⟩:=i1.step P hG O9m (show ?gY<i by omega) hn hp;have e:?l0 ?bV (t ?bV)=R ?bV (t ?bV):=i1.s.same _ _ O9m;show z7 n W w i G R B t b p ?d μ (?gY+1) (?k ?l0 p ?bV _) (?k (?hZ).2 ?bV p _);rw[e,qm9];exact q2
theorem Rg[?G][?aZ][?f]{b p spot μ β c:Nat}[?nK](inc:?k5)[?n7][?nA][?bQ][?nI](hc:?kA<?q)[?cU] :
 c6 n W w i G R B t b p ?d μ (?q8).1 (?q8).2/\∀d,?fI->?xY (β+i*?M) (?hZ):=by
 have r:=MZ (W:=W) (w:=w) (B:=B) (b:=b) P h hG hn hp ?aA O9m;rw[show ?jU+?aA=i by omega]at r;refine⟨r.done inc,?jN⟩;have:=(JA (W:=W) (w:=w) (lo:=i+1) (B:=B) P (?uT) O9m O9m O9m O9m (c:=c) (qb8 (?uQ) hc) bb d hd).2.1;refine this.mono ?_;have:=qb7 ?M (?z1 d i);omega
universe Lat
namespace Lat
open Hb
variable[?g7]
noncomputable abbrev cS(π i:Nat):Nat:=i+2*π+2
noncomputable abbrev cM(π i:Nat):Nat:=π+2+2*(?tP)
theorem aJ{x π:Nat}(h:x<=?A):x<?fY:=by
 have:1<=?A:=qj9;rw[qg6];omega
theorem pW{π i μ:Nat}(h:μ<=?Y):?kA<2 ^ ?cE:=by
 have e:2 ^ ?cE=2*(2 ^ i*?Y):=by
  rw[show ?cE=1+(i+(2*π+1)) by unfold cS;omega,qd7,qd7,Nat.pow_one]
 rw[e];have a:=qe3 (2 ^ i) h;have b:1<=2 ^ i*?Y:=by rw[←qd7];exact qj9
 omega
variable[?G][?cW][?f]{π b spot β:Nat}
theorem Dj.partOf[?bO]{R1:Mat}(e:∀r c,?d9->r<i->?mY=?aJ) :
 ?bJ R1 t ?r i/\(?k5)/\∀r c,?d9->r<i->G c->?A7 ?mY ?t:=by
 have k:∀r c,?d9->r<i->?mY=?mR:=fun r c h1 h2=>(e r c h1 h2).trans (?aD r c O9m h2);refine⟨(H.part.sub ?K).congr fun j c h1 h2=>k j c O9m h2,fun l h1 h2=>?e4 ?d l ?K h1 h2,fun r c h1 h2 hc=>?_⟩;rw[k r c h1 h2];exact H.rw r c h2 hc
theorem Dj.meetAdd[?bO][?bQ][?j0]{q:Int}[?xV][?cU] :
 ?z2 ?rI ?rI ∧
 ?xY ?fZ ?hG/\?zY i ?hG:=by
 have hn:=H.hi
 have hq:?k6:=by
  have a:=h.pv ?d ?h hs;have p:=?Z ?d hs;rw[he,qb1]at a;exact qa6 (qh4 _ O9m) a
 have b1:?xY (?eN) ?hG:=bb.add hn O9m (c:=π+1) (by rw[qc4];exact aJ hq);obtain⟨P,inc,hG⟩:=?mW H (R1:=?uD) fun r c h1 h2=>?sE;obtain⟨S,bs⟩:=Rg (n:=n) (W:=W) (w:=w) (G:=G) (B:=(?l8).2) (p:=i) (μ:=?fY) (β:=?eN) (c:=?cE) P inc (h.addPre H hs hq) hG hs hn ?pD (pW ?aG) b1;refine⟨h.metAdd H hs hq hz he ?_,?pF,?yF bs⟩;have e:(?l8).2=?uK:=by show ?k B ?d i (- -q)=_;rw[qm9]
 rw[←e];exact S
theorem Dj.meetBlend[?bO][?bQ][?j0][?n8][?cU] :
 ?z2 ?sW ?sW ∧
 ?xY ?fZ ?i3/\(?zY ?d ?i3) ∧
 ?zY i (?lX):=by
 have hn:=H.hi;have ne:?kU:=O9m
 have b1:?xY (?eN) ?i3:=bb.blend O9m hn ne (c:=π+1) (aJ e.lx) (aJ e.ly) (aJ e.lz) (aJ e.lu);obtain⟨p1,p2⟩:=h.blendPre H hs e;obtain⟨P,inc,hG⟩:=?mW H (R1:=?m3) fun r c h1 h2=>?pN;obtain⟨S1,bs1⟩:=Rg (n:=n) (W:=W) (w:=w) (G:=G) (B:=(?l7).2) (p:=spot) (μ:=?Y) (β:=?eN) (c:=?cE) P inc p1 hG hs hn (?aR ?h) ?pQ b1;have b2:=bs1 ?aA O9m;generalize hs2:?lX=s2 at *;have A44:?A3 ?d (?m3,(?l7).2)=s2:=hs2;rw[A44]at S1 b2;obtain⟨P2,A28,hG2⟩:=?mW H (R1:=s2.1) fun r c h1 h2=>by rw[?eZ r c ?c,Dv ?c ?c]
 have p3:∀l,?bC->l<i->(s2.1 i ?m).natAbs<=?Y*(s2.1 l ?m).natAbs:=fun l h1 h2=>by
  rw[?eZ i _ ?e6,?s0];exact p2 l h1 h2
 obtain⟨S2,bs2⟩:=Rg (n:=n) (W:=W) (w:=w) (G:=G) (R:=s2.1) (B:=s2.2) (p:=i) (μ:=?Y) (β:=?eN+?tP) (c:=?cE) P2 A28 p3 hG2 hs hn ?pD ?pQ b2;exact⟨h.metBlend H hs e hz S1 S2,?pF,?yF bs1,?yF bs2⟩
universe Lat
namespace Lat
open Hb
variable[?g7]
noncomputable def downS[?w](i:Nat)[?cX]:?vT
 | 0=>s
 | d+1=>?A9 (?d7 t i s d) d
theorem Zo[?G][?cW][?f]{Y β:Nat}(I:UJ n W w i G R0 B0 t Y R B)(hi:i<n)[?cU] :
 ∀d,?h9->?tI/\?p2 ∧
   (d<=i->∀m,m<=d->?tR):=by
 intro d
 have nxt:∀d,d<=i->?tI->?p2 →
  ∀m,m<=d->MS n W w ?j (?bB).1 (?bB).2 t ?N ?dZ ?j (?bE+m) (?gN) (?mZ).1 (?mZ).2/\?tR:=by
  intro d hd D b m hm;generalize hs:?bB=s at *;obtain⟨R1,B1⟩:=s;have P:=D.part;rw[?vF]at P D
  have rel:∀l,?bE<=l->l<i+1->(?p3).natAbs<=?gN*(?nS).natAbs:=fun l h1 h2=>by
   have o:?p3=R ?N ?m:=D.old ?N ?m O9m;have p:0<?nS:=?pX l h2;rw[o];refine qa6 (I.gc ?N ?m O9m (I.pg l O9m)) (qh4 _ O9m)
  have run:=JA (n:=n) (W:=W) (w:=w) (lo:=i+1) (R:=R1) (B:=B1) (p:=i-d) (f:=?bE) (m:=i+1) (μ:=?gN) (c:=i+1+Y+1) (β:=?yJ d) P rel O9m ?h hi (?aR O9m) (by
   rw[←qd7];exact qh2 ?c9 O9m) b m O9m
  refine⟨run.1,run.2.1.mono ?_⟩;rw[qf5 d 1,qf2];have:=qb7 (i+1+Y+2) (show m<=i+1 by omega);have e:m*(i+1+Y+1+1)=m*(i+1+Y+2):=rfl;omega
 induction d with
 | zero =>
   intro _;have D0:On n W w i R B t (i+1-0) (?jO).1 (?jO).2:=On.start I.s0;have b0:?zZ 0 ?jO:=bb.mono O9m;exact⟨D0,b0,fun hd m hm=>(nxt 0 hd D0 b0 m hm).2⟩
 | succ d ih =>
   intro hd;obtain⟨D,b,_⟩:=?bI;obtain⟨S,b2⟩:=nxt d O9m D b d ?h
   have D2:On n W w i R B t (i+1-?bM) (?oO).1 (?oO).2:=by
    rw[show i+1-?bM=i-d by omega];rw[?vF]at D;rw[show ?bE+d=i+1 by omega]at S;exact D.next O9m S
   exact⟨D2,b2,fun h m hm=>(nxt ?bM h D2 b2 m hm).2⟩
universe Lat
namespace Lat
open Hb
theorem Ot[?S]{j:Nat}:∀{i:Nat},?aT->(∀k,j<=k->k<i->f k=0)->Am f i=?i5
 | 0,h,_=>by rw[show j=0 by omega]
 | i+1,h,hz=>by
   by_cases e:j=i+1
   . rw[e]
   . show Am f i+f i=_;rw[Ot ?c fun k h1 h2=>hz k h1 ?c,hz i ?c ?c];omega
theorem BN[?S]{m h:Nat}:∀{j:Nat},(∀k,k<j->?oH<=2 ^ k*m*h)->(?i5).natAbs+m*h<=2 ^ j*m*h
 | 0,_=>by show(0:Int).natAbs+m*h<=2 ^ 0*m*h;simp
 | j+1,hf=>by
   have a:=BN (f:=f) (m:=m) (h:=h) (j:=j) fun k hk=>hf k O9m;have b:=hf j O9m;have c:=qf1 (?i5) ?hC;show(?i5+f j).natAbs+m*h<=_;rw[qg6];have e:2 ^ j*2*m*h=2 ^ j*m*h+2 ^ j*m*h:=?s
   omega
theorem W4{a b:Int}{m:Nat}(h:(a+b).natAbs<=m):b.natAbs<=m+a.natAbs:=O9m
theorem SV{x s m M K:Nat}(h1:x<=m+s)(h2:s+M<=K)(h3:m*1<=M):x<=K:=O9m
theorem qA{i:Nat}[?aZ][?f](P:?bJ R t 0 i){a m:Nat}(h:?yC ?h3 m):?wN:=by
 intro j
 induction j using Nat.strongRecOn with
 | _ j ih =>
   intro hj;have pj:=P.pos j ?K hj;have hs:=h j hj;rw[Ot (j:=j+1) ?c fun k h1 h2=>by rw[?kD k _ ?K h2 (P.inc j k ?K ?c h2)];simp]at hs;have hs':(Am (?hX) j+?v1).natAbs<=m:=hs
   have b:=BN (f:=?hX) (m:=m) (h:=?bR) (j:=j) fun k hk=>by
    rw[qb1];obtain⟨r1,r2⟩:=P.red k j ?K hk hj;exact qf0 (ih k hk O9m) O9m
   have c:(?v1).natAbs<=2 ^ j*m*?bR:=by
    exact SV (W4 hs') b (?jG)
   rw[qb1]at c;exact qq0 c O9m
theorem Do.backs[?G]{M B0 R B:Mat}[?f][?cS](hi:i<=n){a m:Nat}(hb:∀k,i<=k->B k a=if k=a then 1 else 0)(hM:?yC ?jJ m)(hM2:?yC ?gE m)(ha:i<=a->a<n->∀j,j<i->?jJ=?gE):?wN:=by
 refine qA ?mJ ?a0;have e:?qH=?jJ:=h.good.pt a ?p
 have s:?qH=?h3+(if ?wQ then ?gE else 0):=by
  have:∀d,i+d<=n->?r3=?h3+(if ?uI then ?gE else 0):=by
   intro d
   induction d with
   | zero=>intro _;ext aX;show Am _ i=_;omega
   | succ d ih =>
     intro hd;show ?r3+B ?eH a*R ?eH ?p=_;rw[?fA,hb ?eH ?c,?mT ?eH _ ?c];by_cases z:i+d=a
     . subst z;rw[?o,?l,?E];omega
     . rw[?V];by_cases y:?uI
       . ext iZ;omega
       . ext iY;omega
  have:=?H (n-i) O9m;rw[show i+(n-i)=n by omega]at this;ext a9
 by_cases z:?wQ
 . rw[?aB,e,ha z.1 z.2 j hj]at s;have:?h3=0:=O9m
   rw[this];exact ?bK
 . rw[?V,qq4]at s;rw[←s,e];exact hM j hj
theorem MY[?f]{n w:Nat}(inc:∀j k,j<k->k<n->?lE):?wL:=by
 have:?w7:=by
  intro m
  induction m with
  | zero=>ext xH
  | succ m ih =>
    ext xJ
    . have hrm:r=m:=by
       ext xN;have:=inc r m y O9m;omega
      exact⟨m+1,?cL,fun j hj=>by
       by_cases q:j=m
       . rw[q];exact z
       . exact b j O9m,?k9⟩
    . exact⟨r,O9m,b,fun j h1 h2=>by
       by_cases q:j=m
       . rw[q];omega
       . exact ?uF⟩
 exact ?w3
theorem Do.first{n W w D:Nat}[?a8][?f](hD:Oo n G M D)(h:?r8) :
 ∃r,?dB/\?vJ/\(∀i c,?aI->i<n->?u5)/\Qr n W w r t (fun j=>?z) R/\?g (fun j=>?z) r<=D/\∀j,j<n->?z<=D:=by
 obtain⟨r,hr,h1,h2⟩:=MY (w:=w) ?eT;have pos:∀k,k<n->0<(fun j=>?z) k:=fun k hk=>?f2 k hk;refine⟨r,hr,?tZ,?oD,⟨fun j c _ a b=>?iB j c a b,fun j k _ a b=>?eT j k a b,h2,fun j _ a=>?dA j a,fun j _ _=>rfl,fun j _ a=>?f2 j a,fun k j _ a b=>?gO k j a b⟩,?_,?a0⟩
 . have a:=Ye (n:=n) pos r hr;have b:=?mM hD ?h (s:=t) h.pg;rw[aR ?lF]at b;have c:=Cy (n:=n) pos;omega
 . have:=h.headD hD ?h hj;have:=?sR;omega
variable[?g7]
theorem addS_zero(p q:Nat)[?cX]:?cK p q (-0) s=s:=by
 unfold addS;rw[?qV,?qV,BD,BD]
theorem DU[?f]{p f:Nat}[?jC]:∀m,(∀j,?d4->j<f+m->s.1 p ?p / ?kI=0)->?iC=s
 | 0,_=>rfl
 | m+1,h=>by
   have ih:=DU (t:=t) (p:=p) (f:=f) (s:=s) m fun j h1 h2=>h j h1 O9m;show ?cK p ?f4 (-((?iC).1 p (t ?f4) / (?iC).1 ?f4 (t ?f4))) (?iC)=s;rw[ih,h ?f4 ?c ?c,addS_zero]
structure zC(i:Nat)[?w](R:Mat):Prop where
 inc:∀j,j<i->t j<t i
 zero:∀x,x<t i->?eQ=0
 pos:∀j,?aT->0<?z
 red:∀k j,k<j->j<i->?r5
noncomputable def Kr(R:Mat)[?w](i k:Nat):Int:=R k ?aO / R i ?aO
structure Ob(n i β c:Nat)[?w][?D](d:Nat)[?cX]:Prop where
 rows:∀r x,s.1 r x=if ?l1 then ?fB+-(?iN)*?eQ else ?fB
 old:∀r x,r≠i->s.2 r x=B r x
 back:∀x,x<n->(s.2 i x).natAbs<=?fJ*?bM
theorem Ob.step{n i β c:Nat}[?f][?aZ]{d:Nat}[?jC](L:?tX)(bb:?aS n n β B)[?nB](hd:d<i+1)(h:?rJ) :
 ?yO ?bM (?A9 s d)/\?uM:=by
 have own:∀x,s.1 ?N x=R ?N x:=?tT
 have ri:∀x,s.1 i x=?eQ:=?tT
 have hdj:∀j,?aT->?kI=?z:=fun j hj=>by
  rw[h.rows];by_cases z:?hU<=j/\j<i
  . rw[?aB,L.zero ?p (L.inc j z.2)];simp
  . rw[?V]
 have zq:∀m,m<d->∀j,?bE<=j->j<?bE+m->s.1 ?N ?p / ?kI=0:=fun m hm j h1 h2=>by
  rw[own,hdj j ?c];obtain⟨a,b⟩:=L.red ?N j O9m O9m;exact Int.ediv_eq_zero_of_lt a b
 have zs:?uM:=fun m hm=>DU m (zq m hm);refine⟨?_,zs⟩;by_cases d0:d=0
 . subst d0;show ?yO 1 s;refine⟨?n3,?aD,fun x hx=>qa6 (?m4) (?jG)⟩;rw[h.rows,?l,?l]
 . obtain⟨e,rfl⟩:∃e,d=e+1:=⟨d-1,O9m⟩
   have last:?y t ?aV (i-(e+1)+1) s (e+1)=?cK ?aV i (-(?hT)) s:=by
    show ?cK _ (i-(e+1)+1+e) _ (?y t ?aV (i-(e+1)+1) s e)=_;rw[zs e ?c,show i-(e+1)+1+e=i by omega,own,hdj i ?h];rfl
   rw[last];refine⟨?n3,fun r x hr=>?_,?wO⟩
   . show ?k s.1 ?aV i _ r x=_;by_cases z:r=i-(e+1)
     . subst z;rw[Cl,own,ri,?E,qd5]
     . rw[C4 z,h.rows];by_cases y:i+1-(e+1)<=r/\r<i
       . ext iZ
       . ext iY
   . show ?k s.2 i ?aV _ r x=_;rw[C4 hr];exact ?aD r x hr
   . show(?k s.2 i ?aV (- -(?hT)) i x).natAbs<=_;rw[Cl,qd5,qm9,?aD ?aV x ?c];have a:=?m4;have b:=qf1 (s.2 i x) (?hT*B ?aV x);rw[qb1]at b;have m:(?hT).natAbs*(B ?aV x).natAbs<=?q*?fH:=qf0 (qd8 (hq _ O9m)) (qd8 (bb _ _ O9m hx));rw[←qd7,?wR]at m;rw[Nat.mul_add _ (e+1+1) 1,Nat.mul_one];omega
theorem OU{n W i β c:Nat}[?f][?aZ](L:?tX)[?cU][?nB] :
 ∀d,?h9->?yO d (?bB):=by
 intro d
 induction d with
 | zero =>
   intro _;refine⟨?n3,?d8,?wO⟩
   . ext aX;rfl
   . show ?sL<=_;have a:?sL<?fH:=?i9 i x hi hx;have p:?pS:=?aH;omega
 | succ d ih =>
   intro hd;exact((?bI).step L ?i9 hq hi O9m).1
theorem Ob.bits{n W i β c:Nat}[?f][?aZ]{d:Nat}[?jC][?cU][?nB](hd:?h9)(h:?rJ):?xY (β+(c+i+3)) s:=by
 refine⟨?n0,?n0,?n0⟩
 . rw[h.rows];by_cases z:?l1
   . rw[?aB];have e:=qf1 (?fB) (-(?iN)*?eQ);rw[qb1,qc4]at e;have a:=?pM;have b:=bb.1 i x hi hx;have m:(?iN).natAbs*(?eQ).natAbs<=?q*?fH:=qf0 (qd8 (hq r z.2)) (qd8 b);rw[←qd7,?wR]at m;have p:?pS:=?aH
     have q:4*?fJ<=2 ^ (β+(c+i+3)):=by
      have e4:4*?fJ=2 ^ (2+?jQ):=by rw[qd7 2 2 ?jQ]
      rw[e4];exact ?aH
     have a':?t0<?fH:=a;omega
   . rw[?V];exact qb3 (?pM) ?aG
 . by_cases z:r=i
   . subst z;have a:=?m4
     have l:d+1<2 ^ (r+2):=by
      have:=qp4 (n:=r+2);omega
     refine qb8 a ?_;have e4:2 ^ (β+(c+r+3))=?fJ*2 ^ (r+3):=by rw[←qd7];congr 1;omega
     rw[e4];refine qp9 ?_ qj9;exact qb3 l ?aG
   . rw[?aD r x z];exact qb3 (?i9 r x hr hx) ?aG
 . rw[h.rows];by_cases z:?l1
   . rw[?aB];have:=Qh (a:=1) (k:=-(?iN)) (c:=c) (bb.2.2 r x hr hx) (bb.2.2 i x hi hx) (show 1<=?q from qj9) (by rw[qc4];exact qd8 (hq r z.2));rw[qd5]at this;exact qb3 ?H ?aG
   . rw[?V];exact qb3 (bb.2.2 r x hr hx) ?aG
universe Lat
namespace Lat
open Hb
variable[?g7]
theorem fdiv_small{x h:Int}{c:Nat}(hh:0<h)(hx:?uC):?vM<?q:=by
 have:=jP (x:=x) (h:=h) (K:=x.natAbs) hh (qh4 _ O9m);omega
theorem Do.putB{n W w i β:Nat}[?a8][?f][?cS](hi:i<n)[?j5](bb:?zV β R):Jw n W w i G R B t β β :=
 ⟨hi,?mJ,?dA,fun j hj=>qd8 (bb j _ O9m (?dA j hj)),fun r c hr hc=>qd8 (bb r c O9m (vK c hc)),fun c hc=>qd8 (bb i c hi (vK c hc)),fun l hl=>qd8 (bb i _ hi (?dA l hl))⟩
theorem Cf.last{n W w r i β c:Nat}[?a8][?cR][?g0](hn:i<n)[?j5](hG:G ?bF)[?cU](hc:∀k,k<i->(R k ?bF).natAbs<?q) :
 Cf n W w r ?j G M B0 kt hd ?a3 (?tK).1 (?tK).2 ∧
 (∀d,?h9->Ob n i β c ?a3 R B d (?i0)/\?xY (β+(c+i+3)) (?i0)) ∧
 (∀d,d<i+1->∀m,m<d->?y ?a3 ?N ?dZ (?i0) m=?i0):=by
 have H:=h.st.putB hn vK bb.1;obtain⟨I,_⟩:=h.ins K hi H hG;have D:=(Zo I hn bb ?j ?h).1;rw[qh8]at D;ext xC;ext n4
 have L:zC i ?a3 R:=⟨fun j hj=>I.s0.inc j i hj O9m,fun x hx=>I.s0.zero i x O9m hx,?yV I.s0.pos,fun k j h1 h2=>by rw[t1 j h2];exact ?oJ k j h1 h2⟩
 have hq:∀k,k<i->?wB<?q:=fun k hk=>?u4 (L.pos i ?h) (by rw[t2];exact hc k hk);have run:=OU L bb hq hn;exact⟨h.nextK K hi hn I D,fun d hd=>⟨?tY,(?tY).bits bb hq hn hd⟩,fun d hd=>((run d O9m).step L ?i9 hq hn hd).2⟩
noncomputable def BE(n r i:Nat)(kt:?x)(c:Nat)(R:Mat):Prop:=∀k j,k<i->i<=j->j<n->(R k ?c0).natAbs<?q
theorem Cf.above{n W w r i β c η:Nat}[?a8][?cR][?jC][?g0](hn:i<n)(hη:∀j,?a4->j<n->(hd j).natAbs<=?mG)(a:BE n r i kt c R)(l:Ob n i β c ?a3 R B ?j s):BE n r ?j kt (c+η+1) s.1:=fun k j h1 h2 h3=>by
 ext n4
 have mi:(R i ?c0).natAbs<?mG:=by
  ext nG;obtain⟨m1,m2⟩:=K.red i j O9m O9m h3;have:=hη j O9m h3;omega
 have p1:?mG<=?nT:=?aH;have p2:?q<=?nT:=?aH;rw[l.rows,qg6];by_cases z:i+1-?j<=k/\k<i
 . rw[?aB];have e:=qf1 (R k ?c0) (-(?nZ)*R i ?c0);rw[qb1,qc4]at e
   have q:?wB<=?q:=by
    unfold Kr;rw[t2];have p:0<R i ?bF:=by rw[?sB,?tO];exact K.pos i hi hn
    exact qd8 (?u4 p (a k i z.2 ?h hn))
   have m:=qf0 q (qd8 mi);rw[←qd7]at m;have b:=a k j z.2 O9m h3;omega
 . rw[?V];have:k=i:=O9m
   subst this;omega
universe Lat
namespace Lat
open Hb
noncomputable def put2[?aY](i j:Nat)(x y:Int):?i:=fun k=>if k=i then x else if k=j then y else f k
theorem Rv[?aY](i j:Nat)(x y:Int):?bT f i j x y i=x:=?o
theorem Ru{i j:Nat}[?aY](h:?eK)(x y:Int):?bT f i j x y j=y:=by unfold put2;rw[?y6 h,?o]
theorem Jz{i j k:Nat}[?aY](h1:k≠i)(h2:k≠j)(x y:Int):?bT f i j x y k=f k:=by unfold put2;rw[?e h1,?e h2]
structure Ao4(o t g r:Int):Prop where
 go:g∣o
 gt:g∣t
 tr:t∣r
 pr:g*r=o*t
 all:∀d:Int,d∣o->d∣t->d∣g
theorem Shares.pair{A B g a b:Int}(h:?vD):Ao4 A B g (?fV*B):=by
 obtain⟨p,eA⟩:=h.dA;have g0:g≠0:=?lD
 have k1:?fV=p:=?kY
 refine⟨h.dA,h.dB,⟨?fV,?kN⟩,?_,fun d h1 h2=>?_⟩
 . rw[k1,←qf6,←eA]
 . rw[h.e];exact ?o2 (qr6 h1) (qr6 h2)
noncomputable def ChainTo(m i:Nat)[?aY]:Prop:=∀a b,a<i->a<b->b<m->f a∣f b
noncomputable def ChainAt(m i j:Nat)[?aY]:Prop:=?s4/\∀b,i<b->b<j->f i∣f b
theorem ChainAt.step{m i j:Nat}[?S]{g r:Int}(h:?rL)(hij:i<j)(hj:j<m)(p:Ao4 (f i) ?hC g r):?eF m i ?I (?bT f i j g r):=by
 have ne:?eK:=O9m
 refine⟨fun a b ha hab hb=>?_,fun b hb hbj=>?_⟩
 . rw[Jz f (?xZ a i) (?xZ a j)];have d1:=h.1 a i ha ha O9m;have d2:=h.1 a j ha O9m hj;by_cases e1:b=i
   . rw[e1,Rv];exact p.all _ d1 d2
   . by_cases e2:b=j
     . rw[e2,?e1];exact qv5 d2 p.tr
     . rw[Jz f e1 e2];exact h.1 a b ha hab hb
 . rw[Rv];by_cases e2:b=j
   . rw[e2,?e1];exact qv5 p.gt p.tr
   . rw[Jz f ?c e2];exact qv5 p.go (?wY)
theorem ChainAt.skip{m i j:Nat}[?S](h:?rL)(d:f i∣f j):?eF m i ?I f:=⟨h.1,fun b hb hbj=>by
 by_cases e:b=j
 . rw[e];exact d
 . exact ?wY⟩
theorem ChainTo.at{m i:Nat}[?S](h:?s4):?eF m i ?j f:=⟨h,fun b h1 h2=>O9m⟩
theorem ChainAt.next{m i:Nat}[?S](h:?eF m i m f):ChainTo m ?j f:=fun a b ha hab hb=>by
 by_cases e:a=i
 . rw[e]at hab ⊢;exact h.2 b hab hb
 . exact h.1 a b O9m hab hb
theorem Uq{f f':?i}{i:Nat}:∀{m:Nat},i<m->(∀k,k<m->k≠i->f' k=f k)->?iI*f i=?aU*f' i
 | m+1,hi,h=>by
   show ?iI*f' m*f i=?aU*f m*f' i;by_cases e:i=m
   . subst e
     have:?g f' i=?g f i:=by
      have:∀l,l<=i->?sH=?g f l:=by
       intro l
       induction l with
       | zero=>intro _;rfl
       | succ l ih=>intro hl;show ?sH*f' l=?g f l*f l;rw[?fA,h l ?c ?c]
      exact ?H i ?h
     rw[this]
     grind
   . have ih:=Uq (f:=f) (f':=f') (i:=i) (m:=m) O9m ?e5;rw[h m ?c (fun z=>e ?b6)];have:?iI*f m*f i=?iI*f i*f m:=?s
     rw[this,ih]
     grind
theorem kX[?S]{i j m:Nat}{x y:Int}(hij:i<j)(hj:j<m)(h0:f i≠0)(hj0:f j≠0)(e:x*y=f i*f j):?hV=?aU:=by
 have ne:?eK:=O9m
 have a:=Uq (f:=f) (f':=?kH) (i:=i) (m:=m) O9m fun k hk hne=>by
  by_cases z:k=j
  . rw[z,?e1]
  . exact Jz f hne z ..
 have b:=Uq (f:=?kH) (f':=?u3) (i:=j) (m:=m) hj fun k hk hne=>by
  by_cases z:k=i
  . rw[z,Rv,Rv]
  . rw[?rZ,?rZ]
 rw[Rv]at a;rw[?e1,?e1]at b
 have c:?hV*(f j*f i)=?aU*(f j*f i):=by
  have:?hV*(f j*f i)=(?hV*f j)*f i:=?s
  rw[this,b];have:?v2*y*f i=(?v2*f i)*y:=?s
  rw[this,a];have:?aU*x*y=?aU*(x*y):=?s
  rw[this,e]
  grind
 exact Int.eq_of_mul_eq_mul_right (Int.mul_ne_zero hj0 h0) c
structure Bil(β:?qD):Prop where
 l:∀u v y a b,β (?gG) y=a*β u y+b*β v y
 r:∀x u v a b,β x (?gG)=a*β x u+b*β x v
theorem BJ{β:?qD}(hb:Bil β){P Q:Mat}[?S]{i j n w:Nat}(ne:?eK)(hin:i<n)(hjn:j<n)(hiw:i<w)(ZP:j<w)(h:∀x y,x<n->y<w->β (P x) (Q y)=if x=y then f x else 0){g a b:Int}(S:?iM (f i) ?hC g a b) :
 ∀x y,x<n->y<w->β (?k ?hQ j i (-(?rR)) x) (?u Q i j a b (-(f j / g)) (?mP) y)=if x=y then ?bT f i j g (?mP*f j) x else 0:=by
 obtain⟨p,eA⟩:=S.dA;obtain⟨q,eB⟩:=S.dB;have g0:g≠0:=by have:=S.pos;omega
 have k1:?mP=p:=?kY
 have k2:f j / g=q:=?wF
 have k3:?rR=b*q:=by rw[eB,show b*(g*q)=g*(b*q) by grind];ext eD
 have e0:=S.e;have ne':j≠i:=?k7;rw[k1,k2,k3];have pi:?zT i=?sM:=by rw[?c6 ne,M0]
 have pj:?zT j=fun c=>1*P j c+?iT*(?sM) c:=by
  rw[M0,?c6 ne',M0]
 have po:∀x,x≠i->x≠j->?zT x=P x:=fun x h1 h2=>by rw[?c6 h2,?c6 h1]
 have ii:=h i i hin hiw;have ij:=h i j hin ZP;have ji:=h j i hjn hiw;have jj:=h j j hjn ZP;rw[?o]at ii jj;rw[?fG]at ij;rw[?e ne']at ji;intro x y hx hy;by_cases y1:y=i
 . subst y1;rw[?f7];by_cases x1:x=y
   . subst x1;rw[?o,Rv,pi,hb.l,hb.r,hb.r,ii,ij,ji,jj]
     grind
   . rw[?kZ];by_cases x2:x=j
     . subst x2;rw[pj,hb.l,hb.l,hb.r,hb.r,ii,ij,ji,jj];have:1*(a*0+?f1)+-(b*q)*(1*(a*f y+b*0)+1*(a*0+?f1))=?f1-b*q*(a*f y+?f1):=?s
       rw[this,←e0];have:?f1=b*(g*q):=by rw[←eB]
       rw[this]
       grind
     . rw[?mN,hb.r,?fW,h x j hx ZP,?kZ,?lI];simp
 . by_cases y2:y=j
   . subst y2;rw[blend_row_q];by_cases x1:x=i
     . subst x1;rw[?fG,pi,hb.l,hb.r,hb.r,ii,ij,ji,jj];have:1*(-q*f x+p*0)+1*(-q*0+p*f y)=p*f y-q*f x:=?s
       rw[this,eA,eB]
       grind
     . by_cases x2:x=y
       . subst x2;rw[?o,?e1,pj,hb.l,hb.l,hb.r,hb.r,ii,ij,ji,jj];have:1*(-q*0+p*f x)+-(b*q)*(1*(-q*f i+p*0)+1*(-q*0+p*f x))=p*f x-b*q*(?uE):=?s
         rw[this];have:?uE=0:=by rw[eA,eB];grind
         rw[this];omega
       . rw[?lI,?mN,hb.r,h x i hx hiw,?fW,?kZ,?lI];simp
   . rw[?mQ y1 y2];by_cases x1:x=i
     . subst x1;rw[?m5,pi,hb.l,?fW,h j y hjn hy,?m5,?lK];simp
     . by_cases x2:x=j
       . subst x2;rw[?lK,pj,hb.l,hb.l,?fW,h i y hin hy,?lK,?m5];simp
       . rw[?mN,?fW];by_cases e:x=y
         . rw[?fR,?fR,Jz f x1 x2]
         . rw[?eV,?eV]
noncomputable def Pz[?aL](A:Mat)(p q:?i):Int:=Am (?zN w) n
theorem jU[?aL](A:Mat):Bil (Pz n w A):=by
 refine⟨fun u v y a b=>?_,fun x u v a b=>?_⟩
 . unfold Pz;ext e9;exact Al fun k _=>?s
 . unfold Pz;ext e9;refine Al ?gZ
   have:Am (fun c=>A k c*(?u6)) w=a*Am (fun c=>A k c*u c) w+b*Am (fun c=>A k c*v c) w:=by
    ext e9;exact Al fun c _=>?s
   rw[this]
   grind
theorem Vm{n w:Nat}{A:Mat}{p p' q q':?i}(hp:∀a,a<n->p a=p' a)(hq:∀b,b<w->q b=q' b):?r9=Pz n w A p' q':=by
 unfold Pz;refine Al fun a ha=>?_;rw[hp a ha,Al fun b hb=>by rw[hq b hb]]
theorem My[?aL](A:Mat)(p q:?i):?r9=Pz w n (tr A) q p:=by
 unfold Pz;rw[show(?zN w)=fun a=>Am (fun b=>p a*(?jX)) w from ?J fun a=>(Bg ..).symm];rw[C9];refine Al fun b _=>?_;rw[←Bg];exact Al fun a _=>?s
theorem DB{n w:Nat}{A:Mat}{x:?i}{U:Mat}{q:?i}:∀m,Pz n w A (fun c=>?gU) q=?lB
 | 0=>by
   show ?yR (?fF)=0;unfold Pz;exact Bi fun a _=>by simp
 | m+1=>by
   have e:(fun c=>?y4 ?cG (m+1))=fun c=>1*(?z6 ?gU) c+?jS:=?J fun c=>by
    show ?gU+?jS=1*?gU+?jS;omega
   rw[e,(jU n w A).l,DB m];show 1*?lB+x m*?yR (U m)=?lB+x m*?yR (U m);omega
end
mutual
#check(4,[?a,?b,some,spot,(?jX),.ref,Nat->Nat,beside,Nat->Int,if_neg,(w+n),(?bB),.int,min n w,if_pos,(i+1),(n+1),Lat.Mat × Lat.Mat,Bits,.inl,?o rfl,?j ?e,.lst,Mat × Mat,?n*?b9,(w+a),.(by intro z;cases z),(?h w T P),2 ^ π,2 ^ b,sumN_one,this,none,(?jL),wpAny,.inr,?o z,decide,s.heap.objs.size,mulV,qa8 _,?f p,∀(s:?r),a,(by ext A),?j z,?c o,.ins,(k+i),(k+1),Q .non H',∀(f:?i),a,.(by exact ?bB),π+1,List,∀(K:W.Frag)(CL CS CW:Addr),a,∀(x:?q4),a,∀(t:?g),a,.(by rw[Bv];omega),∀(n w:Nat),a,cK ms,r<=j,dets,(insT t ?d st),Same H H',z.symm,∀(K:W.Frag),a,(?gF),R j ?b2,fs.lookup,Int × Int,(η+1),(kt j),Nat->?i,?c v,(n+w),IsEnum,(?jV),wk.e0,spot<=i,BB.bo,(H0:Hp),f i / g,(?f e),(d+1),D5 π b r,∀{t:?g},a,∀(n W:Nat),a,∀(hi:i<n),a,Option.none,(r+1),(t j),(2*n+π+2),x.ne,(k+j),ms.map,.none,?j h1,(π+2),moveR,qa1 _,fun x a=>R x ?z,2 ^ β,h.pos,absurd,Bu ms k,((n:Int)+1),?o h1,∀{ms:Ms}(h:nd ms),a,∀{n w:Nat},a,T k c,beside_lo,(hd j).natAbs,(fun c=>c<w),Heap.SameBut,(?k2),c<w+n,r<=n,B a c,η+1+?aW,Addr->Prop,(Q c),ih O9m,.(by grind),k<=j,x.sm,?j h2,(tr R),(p j),st.inc,R l c,Nat->Prop,lookI,p.1=k,β2+(?y-m)*?cS,insS i ?d st ?gR,(n w:Nat),?c7 ms k,V.int,Rep.same,prodN,(n W:Nat),(by ext a5),(j+1),G i a,?o h2,s l-w,(s:?r),x.nu,insS i ?d st s',(p r),p.dπ,?a1 Int,(2*w+π+2),x.2.2,Lat.shrS,?bM hc,(r x),.type "tuple",insAt,putI ms k v,?m i,?a1 Addr,cM π i,∀(_K:W.Frag)(CL CS CW:Addr),a,∀{kt:?g}{hd:?i},a,∀(l r:?r),a,∀{f:?i},a,∀{K:W.Frag},a,?f a,(?aF).natAbs,(w-k),?j q,(?oP),Dl K H a xs,kY (?lH) n,st.lt,(t k),β+(?y-m)*?b3,(w+c),downS,(qe8 _ _),Lat.addS,x.2.1,fun y x=>M x (s y),D5 π b i,b≠e,t ?d,?o ?e,(T i c).natAbs,h.zero,(?kA,Lat.one),Option,s.1 i (?dQ),st.zero,β+?aW,G a c,?yV (fun k=>?oX),s.1 i c,st.red,(fun _=>False),?r->Prop,fun _ _=>rfl,(?n),?a1 α,(Ne.symm ne),K.zero,(lf i O9m),?A2 η n,(lf j hj),(?bU),?zH k c,wk.going,(fun c=>?bR),(?dN),fun z=>?_,s.heap.objs.size+1,s.heap,(s l),(?uM),if ?f2 then x k*?bL else 0,as.map V.ref,π<=8990,β+?h1,fun x a=>S x (n+a),x c*T c c,(?O),?a1 V,2 ^ π2,∀{K:W.Frag}{CL CW:Addr},a,∀{C:?c6}{δ:Nat},a,∀(g:?mY),a,∀{s:?x},a,∀{G:?c6},a,p.π9,c+1<=k/\k<r,moveS,∀j,j<i->t j<w+n,(n-r),?bA R i ?d ?d st<0,Fk ms,(z▸hN),Kp H H',(l r:?r),b0<=π,.(by simpa using e),insT t ?d ?g6 j,?hS->st<?dQ,π<=b,Hs ms k,(?J (?t z)),i≠j,(?y),qd9.mp,(kB n),zt1 ?eK t,Q ?V c,Gy ?F,qa2.mp,K.inc,(tr A),(?pL),(m+1),K.red,xs[i]?,(i<n),(?c (w:Int)),(vs=[?P]),Cm ?e,(x k).natAbs,turnL,(fun a=>a=nm\/a=r2\/a=b2),bs[i]?,one j c,this.table,(?lV),(fun k=>?g0),if i=j then 1 else 0,Vq r b H H',?f b,V r l,Nat->(?i)->?p2,?g1 z PB L j c,(p L R nm:Addr),.(by simp),Fc f n,H D=none,y k i,(r+d),(t:?g),st.pos,2 ^ n,?dV Lat.Mat,SameX,qb4 ?_,.bool,(R,B),(M:?bV),?f ?M,(?vQ),(?J (?J z)),qh2 ?aO O9m,PB k a,?o q,?zT ?f5,(i-r),Fu π b i,R k c,dg.pos,(k,v),D<=?C,lx.nb,K.head,?gM*e.natAbs,qh3 ?cH,(?l7),h.inc,Am (fun c=>?dZ*?gD) m,(c-w),?j ne,fun x=>M x (s 0),(W<=1000),(?s8 t ?d st),(?h w A one),(?lN),Lat.Shares,(p q:Addr),wk.kl,(?dW),Om n l,(model prog w),2 ^ i,?gL j hj,spot<i,IntMulOk,h.red,hp.objs.size,2 ^ η,Rd H a (.dK (?a7)),fun k=>x k*?bL,spot*?d2,fun k hk=>?_,qf6 ..,?o e,(kB n+6),(?m5).2.2,(v:V),(n<=1000),lx.nr,?s5 n w M,if k=j then 1 else 0,M i i,?J h,v ?dG,(M:Lat.Mat),h.diag,(tr S),2 ^ ?q,?t h,fun i hi=>?_,∀{C p r b:Addr}{sv:?dV V}{n W:Nat}{s:?r},a,∀{ns:?cR}(x:?vH),a,∀(hp:?y6 C fs)(sx:?lS),a,∀(K:?o4),a,∀{p C dx:Addr}{fs:?a1 (Str × V)},a,∀{A P PB Q QB:Mat}{f:?i},a,∀{kt t:?g}{hd:?i},a,∀(x:?k5),a,.(by have p:=?yU K.pos),.(by rw[?v]),∀(he:?k7),a,∀{ms:Ms}(h:nz ms),a,∀{ms:Ms}{k v:Int},a,∀{N:?bV},a,∀{ms:Ms}{k:Int},a,∀(s:?aB),a,cJ n*?gM,β+i*?d2,?yU ?h7,Lat.blendS,if a=b then 1 else 0,Bu ms j,Array Value,?N w (gT m G B) v i,Lat.downS,(i:Nat),(?cA).2,w6.extBut,?yV (fun k=>?gI*?gX),g.sq.row0,x.same.trans,x.same _ _ e,List.range,kY B n,(i-?H),[e,it],⟨k1,g,d,tk,os⟩,(c8▸hi),spot+1,bb.mono,kP ?i3 ?e6,?a1 (?aH),T6 k w Q p,?yD ne,w5.extBut,a∈as,?m (w:Int),fun x=>M x x,.(by decide),c<=k/\k<r,.(by omega),.(fun M' e=>by cases e),Lat.Mat->?p2,cJ i*(?D) ^ i,(!(ms.length==ns.length&&ms.all fun p=>?L (?c7 ns p.1=?c p.2))),β-?aI,f i∣f j,?A1 H' f,?zC H N,?yU h.ge,e.natAbs<=?C,(sv:?dV V),.(by simpa using hb),Lat.one,kk b o (bV b hb).1 (bV b hb).2 z,"__ne__",2 ^ d*?l1,fun y a=>R y ?z,qc0 _ rfl,Am (fun k=>x k*?zH k ?aJ) j,Am (fun c=>?g1 z P G i c*?gD) m,?yV (fun c=>Am (fun l=>(RB l a-?e0)*R l ?dI) n*RB i c),{ cls:=?mQ,data:=.fields #[?b7,?gQ false,?gT,?kP 0,?b7,?b7] },qf4 ..,?yV (fun k=>?gX*?eE),?dJ ?aA i (?cO) ?p,2 ^ b0,qh4 _ O9m,rawInt,H a=none,?f3 i ?d x,i*D<=?D,Same H H1,?yL p,x.keep,U m M l r,(N:?bV),I ?d s',Db m z L p,its.toArray,(?tE+1),b2 a ha,(L r ?cP).natAbs,?eQ<=big,s _ _ e,S j (u j),s.1 ?d (?dQ),BO n W s,K2.st.good,∀j c,?bZ->j<w->c<w->(r.1 j c).natAbs<=?lZ,qe7 ?aO O9m,?gG+f n,j<=spot,IsEnumOut,Fc ?g7 j,fun _=>0,fun r=>B ?b1,Am (fun a=>v a*?w2) w,(R k ?dG).natAbs,Value->?vI,(P,PB),2 ^ d*e.natAbs,V8 n r kt,(?yD e),n+b0<β,fun k=>B k a*R k ?b2,s.heap.IsTuple,?gO p H H',beside_hi,h.told,kt ?d,Same H0 H,w7.extBut,s.eqv n ?l,2 ^ b2,2 ^ ?f5,(?cA).1,MQ i M,5*k+k*k,fun j h1 h2=>?_,a2 a ha,L j ?cP,η+1<=β,I ?d s,?pE->h'.get? b=?T,s.1 j (?fD),⟨_,rfl,q2⟩,Hl W ?oE st,h k c hk hc,?hK (f i) (f j) g a b,PB j b,(i-d+1),DF n w i j f l r,Om w r,fun x=>M x (s y0),Lev q m z D L G,Lat.beside,(?c M),fun j c h1 h2 h3=>?_,HT.sIx,(Ka e),.type ?mX,Bu (?f7) k,P' x a,Hp->Prop,?yC v y,Fc g n,fun j hj=>?_,"enumerate",Fb n w r E e T,U m M' l' r',∀(st:?kZ)(hB:?tW)(b2:∀q c,q<m->c<w->(B q c).natAbs<=2),a,.(by obtain⟨dx,fs,h1,h2⟩:=x.ob;obtain⟨as,a1,a2⟩:=x.rw;obtain⟨bs,b1,b2⟩:=x.bk),∀(ge:?zD ?eK n)(gj:s.heap.IsTupleIter j t n)(gt:?pF),a,∀{p L R nm:Addr}{n w:Nat}{M:?gN}{l r:?r},a,.(by obtain⟨tv,dx,fs,hp,l1,l2,l3,l4,l5,l6,l7,_⟩:=x.ob),.(by wp_walk using wpAny_loadPart' q1,qm0 gt),∀{e j t:Addr}{n:Nat}{vs:?j5},a,∀{x:?x}(h:?xW β x),a,.(by have z:b=it:=?k9),.(by rcases qb9.mp hb with rfl | hb),∀(x:?r7),a,∀(spot i:Nat)(A B g a b:Int),a,.(by exact ?gW),∀(tp nm r1 D1 D2 b2:Addr),a,fun spot st s' hs hI hB hex=>?_,?cF f ?fT,xs=[?P],Am (fun j=>?oB*det n (Wu A j)) ?q,⟨_,ge,rfl⟩,Builtin.Dict.addrOf,.bl (! ?w3),Nat->(?g)->?x->Prop,fun y a=>u1.1 y ?z,∀j,j<i->G ?b2,?z3 ?bO,sh.blend,qe3 _ O9m,.(by decide +kernel),its.toArray.size,qb8 h (?gW),upd H ?M (.tup [?d0,x]),?xW (?j0) (?cA),fun i=>(?g3).getD false,h'.IsTupleIter,(f j).natAbs,(one,one),?m i s.toks,Fe n w (?h w R ?bC) RB,hh d ?e j ?e,Am (fun j=>P i j*L j c) z,?yJ ?k ?B,?yN i 0,fun a=>f ?z,.seq vs n,fun r l=>?h w T one r ?eL,Fc (a (c+1)) n,∀i,i<n->?l4,Sj j*A 0 j,Om n ?lL,?zC H' N,(s'.1 i),.(by rw[Aj (Tb b _ z)];exact z),X.calm=true,UI n w A D,det i (eO V Z i),Pz n w A (P y) v,(?vQ).length<=ms.length+ns.length,Gv (Jf ms p.1 p.2) ns,Sj ?p*A ?p 0,⟨⟨_,h⟩,this.1,this.2.1⟩,?yV (fun k=>?eN),fun a=>a=nm,Ql c η r e,fun x y=>M x (?xX 0),h.st.lt j hj,Nat.log2,?dT j c h1 h2 h3,.(show ?jL-r=(spot-r)+1 by omega),?z2 k f,y k l*?gX,LX H CL R r2 b2 ?G w w r ?dC,Fc (a 0) m,?yU hη,.(by simp[Gv]),?r->?e4,B.natAbs<L9,?yJ ?k R,Th H ?dC a,⟨fun i t s hi hJ=>?_⟩,h i j hi hj,h.move hi hs,K2.st.st,(a:Addr),2 ^ 9000,ms.length+1,gT m G B a c,?sA b=?T,?lR t vs,?AA ?c5,?N w B (Q ?V) x,K1.st.good,BE n r i kt (?v7) s.1/\BB n ?k ?hJ ?bQ (?dY+?rD) s/\?u7,Nat.add_le_add_right,Jf ms k n,fun i j h1 h2 h3=>?_,e' j _ ?e ?eM,if ?f6 then LF ?d (?uF) else ?uF,∃x y,x<k/\y<k/\x≠y/\r x=r y,?yL r,?I ?hP A (pyNext ?aU) Q E s,.(by rw[Bg]),k3.push ?uP,((?kE) c),⟨?wG,[]⟩,fun x y=>M x (s y),Fc (a 0) r,Pv i zs τ H,?s5 n w M',hf it ?aE,Am (fun y=>?mU*Q y c) (k+d),Dj n W w i G R0 B0 t π b ?d s.1 s.2,fun j _=>?gL j,?A1 H f,π2<=8990,hx c ?e,Nat->?e4,?m n tk,hM a _ ha (?oS),.(by rw[Ew];exact d),.(by have:=dg.mn;have:=dg.mw;omega),?yO H' ?b0,det n (Wu (F6 A ?p) j),[?f nm,?f r1,?f D1,?f D2,?f b2],w3.extBut,?dY+?w0+(?zO spot+3),xs.map g,UF n w D π β π2 β2 b2 A m M l r,I.tuple hq,Fc ?g7 ?gJ,insAt_get,Fe n w ?B B,Fin k f l r,(M r c).natAbs<=?kN,Fc ?g7 r,fun y x=>M x (?xX 0),?gL r O9m,M6 ?eK b ns,"starts",hs9 j O9m,(?yR (s y)),congrArg,cJ i*?hQ,?cY s ci (as.eraseIdx i),blend_row_ne O9m O9m _ _ _ _,Nat->?jZ,fun r c _ z=>z.elim,?yL b,?bA R i ?d,(h a z).elim,.(by simp;omega),fun j c _=>?dX j c,?xY cnt s,h.mono hb,?xW β s,Lat.ChainTo,QB ?V c,(f i).natAbs,?zT ?h0,?qP<=?tE,?yJ W M,(z▸x.mq),?nX j t ?q,?cT i _ (qa0 hi),.(fun z _=>by rw[e]),?iG*e.natAbs,Fb w n r E e ?c2,Classical.choose_spec,(?l2).2.2,Q (?f tp) H',(?yR (s' y)),b'*f j / g,?z8 D D2,H p=none,?yV (fun a=>P x a*u a),b1.same e,Oo n ?eG ?hI D,?cF (fun r=>f ?b1) m,hk k O9m O9m,?s1 n w T,s _ _ ?cN,h.good.restB,Straight,β2+Fu π2 b2 i<=big,vV x y H Q,?bA B i ?d,Lat.Straight,(tab j z),?yV (?hY),Lat.insT,wpAny_callSpecial?_slot,s.heap.get?,j8 _ _ z,det k (F6 (?rP) i),D5 π b ?p,⟨_,rfl⟩,Lat.Bits,?cY k y xs,qb7 _ O9m,?A7 ?p,?aG m=none,(A i c).natAbs,(M k ?aJ).natAbs,x j*hd j,n*D<=?D,Ee n w T R,Cf.start _ _ _ _ _ _ _ _ _ _,Ik n w k D A l.1 l.2 r.1 r.2 f,?w3=true,?lE h' e j ?bH x ?M,(?eO).set,.(by rw[HT.sIx_nat];omega),?bN<=?hW,H r'=none,F.entry_enumerate_next,BB n ?k ?hJ ?bQ (β+?dO) s,Vp n w T ?iF,?zH i c,?yU h.head,?a1 Bool,l.getD i d,∀a∈?qY,?jS,{ s with heap:=h' },(?fM).objs.size,Fe n w ?B PB,∀x c,x<n->c<w->T x c=?yG (P x),h.2.2 r c hr hc,j.natAbs<L9,i.natAbs<L9,?zZ m3,(one i j).natAbs,2 ^ r*e.natAbs,a1.same e,ms.length<=1000000,∃p,T6 k w r.1 p,putF "backs" b (putF "rows" r []),?yV (fun j=>g ?cI),mO n w A Q M,qb8 ?F (?gW),?y2 cnt s',fun m hm=>?_,?zM h h,(K9 ?i0),(?yD hj),(p dx:Addr),(VI k f),?dP/\b≠it,(tab k z),LX H CS p r b (?c (?f q)) n W s M,∀q c,q<m->c<w->B q c=Am (fun i=>L i q*T i c) z,?h3 i O9m,?yV (fun k=>(x k-?i9)*?h2),?z2 m f,AI lS hs,Om w (Q,QB),wpAny_attempt,?y-(m-1),fun c hc=>O9m,hT i c hi h,Nat->Bool,∀j,j<i->(s.1 j ?b2).natAbs<L9,c9 K H H' tp nm r1 D1 D2 b2 n w k f l r,BZ ms p.1 p.2,Ql c η r d,a≠r/\a≠b/\¬N a,tr R x c,Hl W u st,j8 _ _ hc',?f3 i ?d ?gR,det n (F6 (Wu A ?cI) i),Am (fun j=>?m6*Z j l) ?b1,qb7 _ (Nat.sub_le _ _),k2 ?H ?l,x a u n1 n2 e,Am (fun a=>?cJ*?bT) m,?dF j hj,A.natAbs<L9,{ s with heap:=h',toks:=?w5 },{ cls:=?cX,data:=.seq #[?q8,x] },w2.extBut,x m*T m c,(zs++[y]),(β+?b3),kY (fun r=>?l3) i,B j a*?aF,?yO H ?G,(as.set i D1).set j D2,M6 ?eK a ms,Q (?f D) H',I.ok.hd hc,?yU ?bE,(Tz _ n),ly.keep s,?dZ*L b c,(qg2 ?eI),Q (?f L) H',?bU+?h0*?aI,.(by rw[←qd7];congr 1;omega),fun b hb=>?_,fun _ _ _ _=>rfl,Nat->(?g)->?e4,zA n W i t s I,?yV (fun u=>Am (fun a=>?mS*PB u a) n*P u c),?z7 H',ha.typeIs,.(by ext x9),?xV H M,Shared->Prop,.(by rw[Aj (Tb c _ q)];exact q),as[i]?=?c c,(?fP hi).1,Y k d f l r,(c8▸hj),?j7 t i s d,s _ _ hp,Gv ms ns,mO n w A Q R,setField,H b'=none,h'.objs.size=?eJ,hP i ?hD hi O9m,fun t=>Do.start _ _ _ _ _ _ t,⟨dx,fs,e _ _ h1,h2⟩,Am g ?q,hb.typeIs,?zT (spot-r),.(by unfold one;rw[?j ?jQ,qk7]),QB ?V a,sameC ms ns,H a≠none,s.toks+1,Classical.choose,?yV (fun x=>PB x b*?rT),Fe w n (?h n S ?eR) SB,fun x hx=>?_,Good n ?k w n ?B PB R RB,?zT (i-r+1),.(by rw[qg6];grind),?h w T one j ?eL,?N m D (?g1 z P L i) x,∀a∈as,∀o,H a=?T->H' a=?T,[?d8,?gA],Sj ?cI*A 0 ?cI,(b4 a ha).2.2,∀(g:?mY)(K:?o4)(s:?wA)(st:Db ?k n R t)(tab:∀j,j<r->t j<w)(ker:∀j,?a8->j<n->t j=kt j/\?aF=hd j),a,∀(p:?rR)(hA:?zL ?sK ?kN)(dets:?rV),a,.(by have:(?bN:Int)<=((?hW:Nat):Int):=by rw[Int.natAbs_of_nonneg ?e];exact_mod_cast q),.(by show(?pO).1=_),.(by show(?pO).2=_),.(by obtain⟨tv,dx,fs,hp,l1,l2,l3,l4,l5,l6,l7,hrep⟩:=x.ob;obtain⟨r1,b1,r2,b2,lx,ly,f⟩:=x.li),.(by intro X hP hw hK hc i Ac s σ H E I hf st hg;subst hP hw hK;obtain⟨⟨old,h1⟩,h2⟩:=st),.(by have e:=IM (w:=w) (n:=n) (f:=f) (g:=?o6) (h:=f) (?e5) (?e5)),.(by show ?yH 2 _;refine qa3 (qg9 ge rfl (x:=?f j) rfl ?_)),∀{M B0 R B:Mat}{t:?g}(hM:∀r c,r<n->c<W->?qO)(hD:Oo n (fun c=>c<W) M D),a,∀{K:W.Frag}{H H':Hp}{tp nm r1 D1 D2 b2:Addr}{n w k:Nat}{f:?i}{l r:?r},a,.(by have cm:∀C,?fJ*C<=(?y+1)*C:=fun C=>qb7 _ (qm8 _)),.(by have f1:=p.f1;have f2:=p.f2;have fb:=p.fb;have ZR:uC<=big:=?jV),.(by exact ?t (?J ⟨o,?tO⟩)),∀(h:?mK)(tw:∀c,c<w->?y9 (fun a=>?bT)),a,∀{n w:Nat}{A Q T P:Mat}(h:∀k c,k<n->c<w->?bL=?yG (P k)),a,.(by exact ?t (?t (?tO))),.(by rw[?u,?o (by rw[x.1];exact hi)]at ec;cases ec),.(by have ht:s.TypeIs ?aU ?mX:=?nI),.(by rintro ⟨p,hp,e⟩;exact⟨p,hp,?fC⟩),.(by exact List.Nodup.sublist (List.Sublist.map _ qu7) h),.(by show ?zJ ?oL _;rw[qd0];omega),.(by rw[?h9,?h9]),.(by unfold insS;by_cases z:?f6),.(by have e1:=cm ?b3;have e2:=cm ?cS),.(by have s1:=sC ?b3;have s2:=sC ?cS),.(by rw[Aj (Eu h hn ?R)];exact h),.(by rw[Fq hx hy ne ?rJ];exact ?O),∀(h:Sf n w r E L m e A T P PB Q QB kl kr hl hr),a,∀(f3:?yP H0 r2)(f4:?yP H0 b2),a,∀{i j:Int}(hi:?tB)(hj:?tA),a,∀{r b:Addr}{H H':Hp}{o:HO}(x:?g9),a,∀{i:Nat}{q:?aH}(hq:ms[i]?=?c q),a,∀(h:Do n W w i (fun c=>c<W) M B0 t R B),a,∀(n w D π β π2 β2 b2:Nat)(A:Mat),a,∀(h4:b0<=b)(hβ:b<β)(hβ2:?lP),a,∀(hη:∀j,?a8->j<n->hd j<=?hW),a,∀{a:Addr}{xs:?eU}(h:?dD),a,∀{z m w:Nat}{L T B:Mat}{p:?g},a,∀{n w D:Nat}{A:Mat}(h:?oH),a,∀{Q:?dV Value->?vI},a,∀{ms ns:Ms}(h1:nd ms)(h2:nd ns),a,∀(H:Jw n W w i G R0 B0 t π b),a,∀(dl:?t7),a,@(?a fun i c h1 h2 h3=>?b i c h1 h2 h3),@(E6 X (.builtin "any") (fun xs H Q=>∃(p:Addr) (bs:?t2),?nG/\SqL ?a H p (bs.map V.bl)/\Q (.bl (bs.any id)) H)),@(fr _ _ (fun z=>?a ?fH) (fun z=>?b ?gV) e),@(?u2 (?s9 (name:=Str.ofString "__next__") ht qp7 (qk1 qp7 ht ?sX ?a (F.args_enumerate_next_1 _)))),@(WX K CL CW H0 ?a p L R nm n w ?b l r ns),@(BB n W C δ ?a ?b),@(s (if y=0 then y0 else if y=y0 then ?a else y)),@(SX CS H0 H p q M n W t ?a ?b),@(?I _ _ ?a _ _ ⟨?b,g,d,tk+1,os⟩),@(show ?a<?b by omega),@(Rep K ?a v (dT n w ?b)),@(SX CS H0 H' p q M n W t ?a ?b),@(Cf n ?k w r ?a ?b M B0 kt hd t s.1 s.2),@(?c (?w ?a)),@((5*?n+?n*?n+1)*?a),@(H p=?c (?U ?a dx ?b)),@(b+i+3+2*π+?a*(?a0)),@(?aG (?a:Str)=?c ?b),@(∀x,x<q->?N m D ?a x=0),@(?a (show _<=F by omega)),@(h'.get? ?M=?c { cls:=?cX,data:=.seq #[?m n s.toks,?a] }),@(Am (fun a=>?a a*QB ?b a) w),@(fun z=>?a ?aC),@(Cf n W w r i ?a ?b B0 kt hd t R B),@(?h n (fun i j=>u1.1 j ?a) r.1),@(Pz n w A ?a ?bW),@(?I _ _ (field ?aU ?a>>=_) _ _ ?b),@(Qr w ?aM n r kr hr (?h n ?a ?b)),@(Qr n ?a w r kt hd ?b),@(LX ?a CL R r2 b2 ?b0 w w ?b ?dC),@(H0 ?a=none),@(WX K CL CW H0 H p L R nm n w ?G ?a r (Ho m f)),@(show ?a=?b by omega),@(LX ?a CL L r1 b1 ?b n n l ?g2),@(?a ?b=Option.none),@(∀x c,x<w->c<n->?uC=Pz w n ?fR (?a x) ?pU),@(fun x y=>?h w A one ?cW ?a),@(Rep K ?a (?f D2) (dT w w fun i j=>r.1 j i)),@(Rep K ?a (?f D1) (dT n n fun i j=>l.2 j i)),@(?a j h1 h2),@(Am ?a n),@(fun j hj hn=>?a j hj hn),@((?a I1 D1).headD ?a9 ?b (show j<i+1 by omega)),@(fun a u n1 n2 e=>by rw[Aj ?a];exact ?uK),@(det ?q (?a A ?b)),@(RG i j g a ?a f r),@(fun a o e=>fr _ _ (Ao e ?a) (Ao e ?b) (?jE)),@(Ik n w ?a E A P PB Q QB ?b),@(Cf n ?k w r i ?a ?B PB kt hd t s.1 s.2),@(Am (fun a=>P i a*?a) z),@(Al fun a _=>?a),@(fun i j hij hj=>?a ?V ?b5 O9m O9m O9m),@(Q8 K ?a tp nm r1 D1 D2 b2 n w k f l r),@(JW n w b0 ?a π b β ?b π2 b2 β2 C1 C2 F),@(JL n w r M B0 kt hd π b η β ?a t s),@((?a O9m).cols (fun k c _ hc=>?cV) ?vA),@(?a ?b=?c (.dK (?a7))),@(LX ?a C p r b sv n W s ?b),@(?aN ?a e j ?b old),@(fun c hc=>?a i c hi hc),@(by rw[Aj ?a];exact e),@(Lat.insS ?a ?d st s'),@(?h w T P ?a ?b),@((∀b o,?dP->b≠j->?m9)->Q ?a ?uO),@((?a).length<=?b),@(Sg n w M l r ?a),@(∀i c,i<n->c<w->?a<=?b),@(sx _ _ (Eu ?a hp ?R) ?b),@(LX H' CS p ?a ?b (?c (?f q)) n W s' M),@(?bU+(spot-r)*?aI+?a),@(Bi fun x hx=>by rw[?a x hx,qf3]),@(Bi fun a ha=>by rw[?a a ha,qf3]),@(fun i j=>s1.1 j ?a),@(fun a ha=>⟨(?a).1,(?b).2.1,?eI⟩),@(Ql ?eD η r ?a),@(Rep K ?a (?f r1) (dT n n l.1)),@(Rep K ?a (?f b2) (dT w w r.2)),@(OO (fun r=>Mf ?fL ?i3 ?a r ?b) ?e6),@(upd ?a nm (?w (ns'.map ?cD))),@(fun j hj1 hj2=>?a),@(fun d hd=>?aR (?a d O9m) O9m),@(VA ?a (by have:=p.π9;omega)),@(TA ?a r as n W ?b),@(Mf π b ?a r ?b),@(?p*(i+1+(?y7 i)+?a)),@(β+(?y+1)*?b3+C1+?y5 (2*π+4)<=?a),@(GO _ _ (?y0 ?a n) (?y0 ?b n) O9m _ x y),@(β2+(?y+1)*?cS+C2+?y5 ?b9<=?a),@(?dJ ?aA i (?cA) ?a),@((det k ?a).natAbs=(det k ?b).natAbs),@(H' ?a=?y4 ?b),@(Am (fun l=>(RB l a-?e0)*?a) n),@(fun c=>Am ?a ?b),@(fun M' e=>?cE ?a (hrep M' e))])
noncomputable def mO[?a6](A Q M:Mat):Prop:=∀k c,k<n->c<w->M k c=?yG (fun a=>M k ?z)
theorem mO.rows{n w W:Nat}{A Q M R:Mat}(h:?tK)(hW:w+n<=W)(e:∀i,i<n->In W n M (R i)):?vR:=fun i c hi hc=>by
 obtain⟨x,hx⟩:=e i hi;rw[?q6];have:?yG (fun a=>R i ?z)=?yG (fun a=>Am (fun k=>x k*(fun k a=>M k ?z) k a) n):=Vm (fun a ha=>hx ?z O9m) ?e5;rw[this,DB];exact Al fun k hk=>by rw[?mD]
theorem Do.told{n W w:Nat}[?f0]{A Q M B0 R B:Mat}[?aX](h:Do n W w n G M B0 t R B)(hW:w+n<=W)(k:?tK):?vR:=k.rows hW (h.good.eqv n ?l).1
noncomputable def beside(w:Nat)(T P:Mat):Mat:=fun r c=>if c<w then T r c else P r ?hD
theorem beside_lo{w:Nat}{T P:Mat}{r c:Nat}(h:c<w):?zH r c=T r c:=?o h
theorem beside_hi(w:Nat)(T P:Mat)(r a:Nat):?zH r ?z=P r a:=by unfold beside;rw[?v,Nat.add_sub_cancel_left]
theorem Oq[?wY]:mO n w A Q ?B:=fun k c hk hc=>by
 rw[?cV,?mD];exact Vm (fun a _=>(?lT w T P k a).symm) ?e5
theorem T8[?wY]:∀c k,c<w->k<n->tr T c k=Pz w n ?fR ?bW (P k):=fun c k hc hk=>by
 show ?bL=_;rw[?mD,My]
variable[?eX]
noncomputable def Fu(π b i:Nat):Nat:=i*?d2+?p*(?A3 2)
noncomputable def D5(π b:Nat):?g
 | 0=>0
 | i+1=>?dO+?h1
noncomputable def Ql(c η r:Nat):?g
 | 0=>0
 | d+1=>?uA+(c+d*?aI+?gJ+3)
universe Lat
namespace Lat
open Hb
variable[?eX]
theorem Cf.wide{n W w r i:Nat}{G G':?c6}{M B0 R B:Mat}[?iP](h:?yE G M)(hG:∀c,G c->G' c):?yE G' M:=⟨⟨h.st.good,h.st.st,fun j hj=>hG _ (h.st.pg j hj)⟩,h.tab,h.ker⟩
theorem qB{n W r β:Nat}{kt:?g}[?eZ](b:?r9)(hr:?bS)(hC:∀j,?a8->j<n->C ?aJ)(hδ:δ<=β):BE n r r kt (β-δ) s.1:=fun k j h1 h2 h3=>by
 have:=b.2.2 k ?aJ O9m (hC j h2 h3);have e:?bD=2 ^ (β-δ)*2 ^ δ:=?v8
 rw[e]at this;exact Nat.lt_of_mul_lt_mul_right ?F
noncomputable def moveS(i s:Nat)(x:?x):?x:=(?bA x.1 i s,?bA x.2 i s)
noncomputable def LF(p:Nat)(x:?x):?x:=(Gm x.1 p,Gm x.2 p)
theorem XN{n i s r:Nat}[?aZ](hs:s<=i)(hr:r<n):mvI i s r<n:=by unfold mvI;split;omega;split;omega;split<;>omega
theorem BB.move{n W β i s:Nat}[?n7][?aZ](hs:s<=i):?xW β (?f3 i s x) :=
 ⟨h.1.move hi hs,h.2.1.move hi hs,fun r c hr hc=>by show(?bA x.1 i s r c).natAbs*_<_;rw[move_row];exact h.2.2 _ c (XN hi hs hr) hc⟩
theorem BB.neg{n W β p:Nat}[?n7]:?xW β (LF p x) :=
 ⟨h.1.neg,h.2.1.neg,fun r c hr hc=>by
  show(Gm x.1 p r c).natAbs*_<_;unfold Gm;by_cases e:r=p
  . subst e;rw[Bn,qc4];exact ?t9
  . rw[Bw e];exact ?t9⟩
noncomputable def insS(i spot st:Nat)(x:?x):?x:=if (?kR).1 ?d st<0 then LF ?d (?kR) else ?kR
theorem XW(i spot st:Nat)(R B:Mat):?m1=if ?f6 then Gm (?r3) ?d else ?r3:=by
 ext x6
 . rw[?K];ext wM;rw[?K];rfl
 . rw[?S];ext wM;rw[?S];rfl
theorem xW(i spot st:Nat)(R B:Mat):?j9=if ?f6 then Gm (?s4) ?d else ?s4:=by
 ext x6
 . rw[?K];ext wN;rw[?K];rfl
 . rw[?S];ext wN;rw[?S];rfl
theorem BB.ins{n W β i spot st:Nat}[?n7][?aZ](hs:?aQ):?xW β (insS i ?d st x):=by
 unfold insS;split
 . exact(?p8).neg
 . exact ?p8
theorem rQ{n W w i β:Nat}[?f0]{R0 B0 R B:Mat}[?aX]{π b spot st:Nat}[?xP](p:Dj n W w i G R0 B0 t π b ?d R B)(hs:?aQ)(h0:∀c,c<st->R i c=0)(h1:R i st≠0)(hW:st<W)(hG:G st)(ZO:?nN)(hex:?fE)(bb:?xW (β+?hZ) ?gR) :
 UJ n W w i G R0 B0 ?aA (?y7 i) ?m1 ?j9 ∧
 On n W w i ?m1 ?j9 ?aA 0 (?sI).1 (?sI).2 ∧
 ?nV ∧
 (∀d,d<=i+1->?xW (?eQ) (?A7 d)) ∧
 (∀d,d<=i->∀m,m<=d->?xW (?eQ) (shrS ?aA (i-d) ?mG (?A7 d) m)):=by
 have I:=p.ins H hs h0 h1 hW hG ZO hex;rw[←XW,←xW]at I;have b1:?nV:=(?jM (by have:=qb7 (?d2) hs;omega)).ins H.hi hs;have run:=Zo (β:=?j0) I H.hi b1
 have up:∀d,d<=i+1->?j0+d*(?A3 2)<=?eQ:=fun d hd=>by
  unfold Fu;have:=qb7 (?A3 2) hd;omega
 refine⟨I,?_,b1,fun d hd=>(run d hd).2.1.mono (up d hd),fun d hd m hm=>((run d O9m).2.2 hd m hm).mono (up ?aV O9m)⟩;have D:=(run ?p ?l).1;rw[qh8]at D;exact D
universe Lat
namespace Lat
open Hb
variable[?eX]
theorem Wi{w m D:Nat}{T P:Mat}(h:Oo m ?bO T D):Oo m ?bO ?B D:=fun i hi s hs=>by
 have e:(det i fun r l=>?zH r ?eL)=det i fun r l=>T r ?eL:=Da fun r c _ hc=>?bM (hs c hc);rw[e];exact h i hi s hs
theorem In.cols{w n:Nat}{R R':Mat}{u v:?i}(h:In w n R u)(hR:∀k c,k<n->c<w->?h2=R' k c)(hu:∀c,c<w->u c=v c):In w n R' v:=by
 obtain⟨x,hx⟩:=h;exact⟨x,fun c hc=>by rw[←hu c hc,hx c hc];exact Al fun k hk=>by rw[hR k c hk hc]⟩
theorem Ee.cols[?bK]{T T' S S':Mat}(h:Ee n w T T')(e:∀k c,k<n->c<w->?bL=S k c)(e':∀k c,k<n->c<w->T' k c=S' k c):Ee n w S S':=by
 obtain⟨r,t,hr,st,hz⟩:=h.st;refine⟨fun i hi=>(h.fwd i hi).cols e (?zE e'),fun i hi=>(h.bwd i hi).cols e' (?zE e),r,t,hr,⟨?dF,?c4,fun j c hj hc=>?_,?mW,fun k j hk hj=>?_⟩,fun i c h1 h2 h3=>by rw[←e' i c h2 h3];exact hz i c h1 h2 h3⟩
 . rw[←e' j c ?e (by have:=?uM;omega)];exact ?dX j c hj hc
 . rw[←?pN];exact ?hR
 . rw[←e' k _ ?e ?eM,←?pN];exact ?e2 k j hk hj
theorem lI{n W w r i E π b:Nat}{e:Int}{T P B0 R B:Mat}[?iP][?eY](hW:w<=W)(h:?yE ?bO ?B)(hi:i<r)(hE:E<=?C)[?iT](hb:i*E<=?D)(hπ:?fF):Jw n W w i ?bO R B t π b:=by
 have rn:=g.sq.rn;refine h.st.putD (Wi g.dets) O9m O9m (?u4) (b0:=π) (fun c hc=>?_) hE hb ?l hπ;rw[?cV];obtain⟨a1,a2⟩:=g.le i c O9m hc;omega
theorem Nw{n w r E:Nat}{e:Int}[?f0]{A Q T P B0 R B:Mat}[?iP](he:0<e)[?eY][?iM](h:Cf n ?k w r n G ?B B0 kt hd t R B)(k:?t8) :
 ?sO/\?rL/\?p4/\∀x c,x<n->c<w->R x c=?yG (fun a=>R x ?z):=by
 have s:?sO:=?zA h.st.rows;exact⟨s,s.going he g,h.done K,h.st.told ?l (Oq k)⟩
universe Lat
namespace Lat
open Hb
variable[?eX]
theorem LV{n W w i D π b b0:Nat}[?wS][?xG][?aZ](h1:?h5)(h2:?kS)(h3:?fB)(h4:b0<=b):Jw n W w i (fun c=>c<W) R B t π b :=
 h.putD hD O9m hi (fun _ hc=>hc) (?zE hM) h1 h2 h3 h4
theorem Sc{n W w i D b b0 β:Nat}[?wS](hB:∀k a,B0 k a=if k=a then 1 else 0)[?xG](hi:i<=n)(h2:?kS)[?xI]:BB n W ?e3 0 β ?gR:=by
 refine⟨fun r c hr hc=>?_,fun r a hr ha=>?_,fun _ _ _ z=>z.elim⟩
 . have le:(R r c).natAbs<=?D:=by
    by_cases z:r<i
    . exact qa6 (h.rowD hD hi (fun _ hc=>hc) z hc) h2
    . rw[h.good.rest r c ?e];exact qa6 (hM r c hr hc) (C7 h4)
   exact qb8 le (qh2 ?aO hβ)
 . have pM:∀x,x<n->∀c,pT n B0 M x c=M x c:=fun x hx c=>by
    show ?yV (fun k=>B0 k x*M k c)=M x c;rw[?E (j:=x) hx fun k _ hne=>by rw[hB,?j hne];simp,hB,?u,qd5]
   by_cases z:r<i
   . have:=h.backs hi (a:=a) (m:=?kN) (fun k hk=>by rw[?s0 k a hk,hB]) (fun j hj=>by rw[pM a ha];exact ?q9) (fun j hj=>?q9) (fun _ _ j _=>pM a ha _) r z;rw[←qd7]at this;exact ?tL
   . show(B r a).natAbs<?bD;rw[?s0 r a ?e,hB];have:1<?bD:=Nat.one_lt_two_pow O9m;split
     . exact this
     . exact qt5 ?aO ?F
universe Lat
namespace Lat
open Hb
theorem Ew(w:Nat)(R:Mat):?h w R (fun r a=>R r ?z)=R:=by
 funext r c
 unfold beside;by_cases h:c<w
 . rw[?o h]
 . rw[?j h];show R r (w+?hD)=R r c;rw[show w+?hD=c by omega]
theorem Qr.table{n W w r:Nat}[?d4]{T T' P:Mat}(h:?yJ W ?B)(hz:∀i c,r<=i->i<n->c<w->T' i c=0):?yJ W (?h w T' P):=by
 have same:∀k c,w<=c->?h w T' P k c=?eE:=fun k c hc=>by unfold beside;rw[?v,?v]
 refine⟨?mN,?hB,h.ge,h.lt,?m4,?bE,fun k j h1 h2 h3=>?_⟩
 . by_cases z:c<w
   . rw[?bM z];exact hz j c h1 h2 z
   . rw[same j c ?e];exact ?oU
 . rw[same j _ (?k6)];exact ?t1
 . rw[same k _ (h.ge j h1 h3)];exact ?hU k j h1 h2 h3
theorem Gy{n w w':Nat}{T T' P B:Mat}(h:?qM):Fe n w' (?h w' T' P) B:=fun i j hi hj=>by
 have:=?p7;unfold pD at this ⊢;rw[←this];exact Al fun c _=>by rw[beside_hi,beside_hi]
structure Sf(n w r E L m:Nat)(e:Int)(A T P PB Q QB:Mat)(kl kr:?g)(hl hr:?i):Prop where
 e0:0<e
 going:?mY
 kl:Qr n ?k w r kl hl ?B
 kr:?yI (tr T) Q
 told:?t8
 dl:?t7
 dr:Fe w n (?h n (tr T) Q) QB
 left:MO n w r L m T
theorem Sf.next{n w r E L m:Nat}{e:Int}{A T P PB Q QB R RB S SB:Mat}{kl kr tl ur:?g}{hl hr:?i}{G G':?c6}(hL:e.natAbs.log2<=L)[?xB]
 (s1:Cf n ?k w r n G ?B PB kl hl tl R RB)
 (s2:Cf w ?aM n r w G' (?h n ?c2 Q) QB kr hr ur S SB) :
 ?sZ/\(¬?rY->0<m/\Sf n w r E L (m-1) e A ?iF (?bC) RB (?eR) SB kl kr hl hr):=by
 obtain⟨a1,a2,a3,a4⟩:=Nw h.e0 h.going h.kl s1 ?lU;have kr':?yI ?c2 Q:=?xR h.kr.table a2.sq.row0;have t2:?yQ Q:=fun x c hx hc=>T8 (T:=R) (P:=?kE) a4 x c hx hc;obtain⟨b1,b2,b3,b4⟩:=Nw h.e0 a2 kr' s2 t2;have st:?sZ:=⟨R,a1,b1⟩
 refine⟨st,fun ns=>?_⟩;obtain⟨m0,lf⟩:=h.going.next h.e0 hL st h.left ns;refine⟨m0,h.e0,b2,?_,?_,?_,?_,?_,lf⟩
 . have:Qr n ?k w r kl hl (?h w R ?bC):=by rw[Ew];exact a3
   exact ?xR ?g5 b2.sq.row0
 . have:?yI S ?eR:=by rw[Ew];exact b3
   exact ?xR ?g5 b2.sq.flip.row0
 . intro x c hx hc;show S c x=_;rw[b4 c x hc hx,My]
 . have d:=s1.st.good.dual h.dl;have:?o1:=?qA
   exact ?fO
 . have d:=s2.st.good.dual (Gy h.dr);have:?w8:=?qA
   exact ?fO
noncomputable def one:Mat:=fun i j=>?g8
theorem Tm[?a6](T:Mat):Fe n w (?h w T one) one:=fun i j hi hj=>by
 unfold pD
 rw[show(fun c=>?h w T one i ?dI*?g4)=fun c=>(if c=i then 1 else 0)*?g4 from funext fun c=>by
  rw[beside_hi];show(if i=c then(1:Int) else 0)*_=_;by_cases e:i=c
  . rw[?i2,?o e.symm]
  . rw[?j e,?j ?lO]]
 rw[Dc (fun c=>?g4) i n,?o hi];show(if j=i then(1:Int) else 0)=_;by_cases e:i=j
 . rw[?i2,?o e.symm]
 . rw[?j e,?j ?lO]
theorem MX[?bK](A:Mat):∀x c,x<n->c<w->A x c=Pz n w A (one x) (one c):=fun x c hx hc=>by
 unfold Pz
 rw[?E (j:=x) hx fun k _ hne=>by
  have:one x k=0:=?j (?yD hne);rw[this];simp]
 rw[?E (j:=c) hc fun k _ hne=>by
  have:one c k=0:=?j (?yD hne);rw[this];simp]
 have e1:one x x=1:=?u;have e2:one c c=1:=?u;rw[e1,e2];simp
theorem fY{n w D D' L:Nat}{A R RB S SB:Mat}{t u:?g}{G G':?c6}(hD:Oo n G ?hI D)(hD':Oo w G' (?h n ?c2 one) D')
 (s1:Do n ?k w n G ?hI one t R RB) (s2:Do w ?aM n w G' (?h n ?c2 one) one u S SB) :
 ∃(r:Nat) (e:Int),?bS/\r<=w/\e<=D/\Sf n w r D L (r*(L+2)) e A ?iF (?bC) RB (?eR) SB t u (fun j=>?aF) (fun j=>?l6) ∧
   (∀j,j<n->?aF<=D)/\∀j,j<w->?l6<=D':=by
 obtain⟨r,hr,st,hz,K,pr,hd⟩:=s1.first hD;obtain⟨r',hr',st',hz',K',_,hd'⟩:=s2.first hD';have e0:0<?cF (fun j=>?aF) r:=Cy fun j hj=>?hR;have rs2:Ee w n ?c2 (tr ?iF):=?zA s2.rows;have g:=Vp.first (T:=A) hr st hz rs2 pr;have rw':=g.sq.rw
 have er:r'=r:=by
  refine qi1 ?v5 ?v5
  . have p:=st'.pos r z;have:S r (u r)=0:=g.sq.col0 (u r) r (st'.lt r z) ?l O9m;omega
  . have p:0<S r' r':=g.pos r' z;have:S r' r'=0:=hz' r' r' ?l O9m O9m;omega
 subst er;have d1:=s1.good.dual (Tm n w A);have d2:=s2.good.dual (Tm w n ?c2);have tl:=s1.told ?l (Oq (MX (n:=n) (w:=w) A));have t2:?yQ one:=fun x c hx hc=>T8 (T:=R) (P:=?kE) (Q:=one) tl x c hx hc;have tl2:=s2.told ?l (Oq t2);refine⟨r',_,hr,rw',pr,⟨e0,g,?_,?_,fun x c hx hc=>?_,?_,?_,MO.start g⟩,hd,hd'⟩
 . have:Qr n ?k w r' t (fun j=>?aF) (?h w R ?bC):=by rw[Ew];exact K
   exact ?xR ?g5 ?jC
 . have:Qr w ?aM n r' u (fun j=>?l6) (?h n S ?eR):=by rw[Ew];exact K'
   exact ?xR ?g5 g.sq.flip.row0
 . show S c x=_;rw[tl2 c x hc hx,My]
 . have:?o1:=by rw[Ew];exact d1
   exact ?fO
 . have:?w8:=by rw[Ew];exact d2
   exact ?fO
structure Ik(n w m:Nat)(E:Nat)(A P PB Q QB:Mat)[?Y]:Prop where
 mn:m<=n
 mw:m<=w
 diag:∀x y,x<n->y<w->Pz n w A (P x) (Q y)=if x=y then f x else 0
 pos:∀x,x<m->0<f x
 zero:∀x,m<=x->x<n->x<w->f x=0
 prod:?cF f m<=E
 dl:Fe n 0 P PB
 dr:Fe w 0 Q QB
theorem aV[?bK]{T P B:Mat}(h:?qM):Fe n 0 P B:=fun i j hi hj=>by
 rw[←?p7];unfold pD;exact Al fun c _=>by rw[beside_hi,qt4]
theorem Sf.diag{n w r E L m:Nat}{e:Int}{A T P PB Q QB:Mat}{kl kr:?g}{hl hr:?i}[?xB](s:?rY):?z2 r (fun x=>T x x):=by
 refine⟨h.going.sq.rn,h.going.sq.rw,fun x y hx hy=>?_,h.going.pos,fun x h1 h2 h3=>h.going.sq.row0 x x h1 h2 h3,h.going.prod,aV h.dl,aV h.dr⟩;rw[←?lU x y hx hy];by_cases z:x=y
 . rw[?K,z]
 . rw[?S];exact s x y hx hy z
theorem Ik.share{n w m E:Nat}[?iO](h:?tZ){i j:Nat}(hij:i<j)(hj:j<m){g a b:Int}(S:Shares (f i) (f j) g a b) :
 Ik n w m E A (addR (addR P i j 1) j i (-(b*f j / g))) (addR (addR PB j i (-1)) i j (b*f j / g)) (blendR Q i j a b (-(f j / g)) (?aT)) (blendR QB i j (?aT) (f j / g) (-b) a) (put2 f i j g (?aT*f j)):=by
 have ne:?fI:=O9m
 have mn:=h.mn;have mw:=h.mw;have pi:=?bE i O9m;have pj:=?bE j hj;have pg:=S.pos;have pr:=S.pair;have gz:?aT*g=f i:=Int.ediv_mul_cancel S.dA
 have po:0<?aT*f j:=by
  have:0<g*(?aT*f j):=by rw[pr.pr];exact Int.mul_pos pi pj
  exact Int.pos_of_mul_pos_right ?F O9m
 refine⟨mn,mw,BJ (jU n w A) ne O9m O9m O9m O9m ?iE S,?w9,fun x h1 h2 h3=>?_,?_,?_,?_⟩
 . by_cases e1:x=i
   . rw[e1,Rv];exact pg
   . by_cases e2:x=j
     . rw[e2,Ru f ne];exact po
     . rw[Jz f e1 e2];exact ?bE x hx
 . rw[Jz f ?e ?e];exact ?dT x h1 h2 h3
 . rw[kX hij hj ?e ?e pr.pr];exact h.prod
 . have d1:=h.dl.add (p:=i) (q:=j) O9m O9m ne 1;have d2:=d1.add (p:=j) (q:=i) O9m O9m (?jQ) (-(b*f j / g));rw[qm9]at d2;exact d2
 . have B:=S.blend (π:=?rC+?nY) pi (qa6 O9m (qd8 qp4)) (qa6 O9m (qd8 qp4));have d:=h.dr.blend (p:=i) (q:=j) O9m O9m ne B.one;rw[qm9]at d;exact d
theorem Ik.le{n w m E:Nat}[?iO](h:?tZ){x:Nat}(hx:x<m):f x<=E:=qt8 (Yf ?bE hx) h.prod
noncomputable def V8(n r:Nat)(kt:?g):?c6:=fun c=>∃j,?a8/\j<n/\c=kt j
theorem Qr.bits{n W w r β η:Nat}[?d4]{M B:Mat}(K:?rF)[?xJ](b1:?s n W β M)(b2:?s n n β B)(hβ:?m7):BB n W ?hJ ?bQ β (M,B):=by
 refine⟨b1,b2,fun k c hk hc=>?_⟩;obtain⟨j,h1,h2,rfl⟩:=hc
 have le:?sL<=?hW:=by
  ext iR;have q:=?p0
  have q':?sV:=by
   ext wL
   exact_mod_cast this
  rcases qk3 k j with z | z | z
  . obtain⟨a,b⟩:=?fU k j h1 z h2;omega
  . subst z;rw[?h7 k h1 h2];exact q'
  . rw[?e9 k _ ?e hk (?fQ j k h1 z hk)];exact ?O
 show ?sL*2 ^ ?bQ<?bD;have e:?bD=2 ^ ?aI*2 ^ ?bQ:=?v8
 rw[e];refine Nat.mul_lt_mul_of_pos_right ?_ (Nat.two_pow_pos _);exact aJ le
noncomputable def Mf(π b η r n:Nat):Nat:=?aW+?gZ
theorem uH{n W r β η π b:Nat}{kt:?g}[?eZ](bb:BB n W ?hJ ?bQ (?dY) s)(hr:?bS)(hβ:?m7):BE n r r kt ?eD s.1:=by
 have:=qB bb hr (kt:=kt) (fun j h1 h2=>⟨j,h1,h2,rfl⟩) O9m;rw[show ?dY-?bQ=?bU by omega]at this;exact this
theorem KP(π b:Nat){i r:Nat}(h:i<=r):?dO<=?aW:=by
 induction r with
 | zero=>rw[?o5];ext Z
 | succ r ih =>
   by_cases e:i=r+1
   . rw[e];ext Z
   . have:=?bX;show _<=?aW+Fu π b r;omega
theorem LW(c η r:Nat){d e:Nat}(h:d<=e):?uA<=?oQ:=by
 induction e with
 | zero=>rw[?yN d 0];ext Z
 | succ e ih =>
   by_cases z:d=e+1
   . rw[z];ext Z
   . have:=?bX;show _<=?oQ+_;omega
universe Lat
namespace Hb
open PySem L2
theorem iF{g:TG}{te:TE}{D:Addr}{Q:?mT}{τ:St}{H:Hp}[?d7]{a b:Addr}{xs ys:?eU}{n:Nat}(hn:xs.length=n/\ys.length=n)(Pv:Nat->?eU->St->?mT)(h0:Pv 0 [] τ H)(hl:∀i zs τ H,i<=n->?pY->?dD/\Dl K H b ys)
 (hs:∀i x y zs τ H p,?fV=?c x->ys[i]?=?c y->?pY->?rS->g (?P) τ (upd H p (.tup [x,y])) fun τ2 H2=>te τ2 H2 fun y H4=>H4 D=?y4 zs/\zs.length<sizeLine/\Pv ?p ?uS τ2 (upd H4 D (?w ?uS)))
 (hd:∀zs τ H,Pv n zs τ H->Q H):Sh (Ityp K a b) g kQ te D Q τ H:=mE hn Pv h0 hl (fun i x y zs τ H p e1 e2 q hp=>hs i x y zs τ H p e1 e2 q hp) hd
noncomputable abbrev big:Nat:=67108864
theorem vR:∃n:Nat,n=?pB:=?sE
noncomputable def L9:Nat:=?w6 vR
theorem c8:L9=?pB:=?rM vR
theorem GW{i j:Int}{n:Nat}(hi:?tB)(hj:j.natAbs<?gM)(h:9000+n<=134217728:=by decide):?hT i j:=Q0 ?jK hj h
theorem bW[?xD]:?hT i j:=Q0 ?jK ?vN ?aO
theorem Vr.of9{i j:Int}(h0:j≠0)(h:?tA):Vr i j:=Vr.of h0 (c8▸h)
theorem A05[?xD]:(i*j).natAbs<2 ^ 18000:=by
 rw[qb1,show 18000=9000+9000 from rfl,qd7];exact qm4 ?jK ?vN
theorem VA{x π:Nat}(h:x<=?C)(hπ:π<=8999):x<L9:=by
 rw[c8];exact ?nT
noncomputable def BO[?aY][?Q]:Prop:=?sF n W big s.1/\?sF n n big s.2
noncomputable def TA(H:Hp)(r:Addr)(as:?d1)[?aY](f:Lat.Mat):Prop:=as.length=n/\H r=?y4 (?eO)/\∀i c,?vK->H c=?y4 (VI W (f i))
section
variable[?d7]{H H':Hp}{r:Addr}{as:?d1}{n W:Nat}{f g:Lat.Mat}
theorem TA.keep[?a3](h1:∀o,H r=?T->H' r=?T)(h2:?wF):?k4:=⟨x.1,h1 _ ?dM,fun i c e=>h2 c (qb0 e) _ (?cT i c e)⟩
theorem TA.same[?a3][?iY]:?k4:=?kV (fun _ e=>?l5) fun _ _ _ e=>?l5
theorem TA.put{y:Addr}{o:HO}[?a3](h1:r≠y)(h2:∀a∈as,a≠y):?A1 (upd H y o) f:=?kV (fun _ e=>?zF h1) fun a ha _ e=>?zF (h2 a ha)
theorem TA.row[?a3]{i:Nat}[?aZ]:∃c,?vK/\(?eO)[i]?=?c (?f c)/\c∈as/\SqL K H c (VI W (f i)):=by
 obtain⟨h1,_,h3⟩:=x;have e:=qa0 (l:=as) (i:=i) O9m;refine⟨as[i],e,by rw[qa9,e];rfl,qe4 _,.of (h3 i _ e)⟩
theorem TA.rep[?a3]:Rep K H (?f r) (dT n W f):=by
 refine fH (us:=?eO) (.of ?dM) (by rw[qa4,x.1]) ?iI;obtain⟨c,_,e,_,h⟩:=x.row (K:=K) hi;exact⟨c,e,h⟩
theorem TA.there[?a3]:H r≠none/\∀a∈as,?w4:=by
 refine⟨by rw[?dM];exact(fun z=>nomatch z),fun a ha=>?_⟩;obtain⟨i,hi,rfl⟩:=qj0 ha;rw[?rI];exact fun z=>by cases z
theorem TA.of{D:Addr}{H1:Hp}{w h:Nat}(R:Rows H H1 D as w f)(hl:as.length=h):TA H1 D as h w f:=⟨hl,R.at,fun i c e=>(R.row i c e).2.2⟩
theorem TA.congr[?a3](e:∀i c,i<n->c<W->f i c=g i c):?A1 H g:=by
 refine⟨x.1,?dM,fun i c ec=>?_⟩;have hi:i<n:=by rw[←x.1];exact(?fP ec).1
 rw[?cT i c ec,P1 fun k hk=>e i k hi hk]
theorem TA.x[?iN][?a3][?iL]:?k4:=by
 refine ?kV (fun o e=>?zM ?dM e) fun a ha o e=>sx _ _ ?_ e;obtain⟨i,hi,rfl⟩:=qj0 ha;exact Eu (?rI) hp ?R
theorem TA.made{H2:Hp}{L D:Addr}{i:Nat}[?a3](s2:Same H H2)[?aZ](hL:H2 L=?y4 (?sT i (?f D)))(hD:H2 D=?y4 (VI W (g i)))(e:∀r,r≠i->g r=f r):TA H2 L (as.set i D) n W g:=by
 refine⟨by rw[qi3,x.1],by rw[hL,List.map_set],fun j c ec=>?_⟩;rw[qr2]at ec;by_cases hj:i=j
 . subst hj;ext x0;exact hD
 . rw[?j hj]at ec;rw[e j ?tQ];exact s2 _ _ (?cT j c ec)
theorem TA.two{i j:Nat}{D1 D2:Addr}[?a3][?aZ](hj:j<n)(hij:?fI)(h':?A9 r ((?sT i (?f D1)).set j (?f D2)))(keep:?wF)(h1:?A9 D1 (VI W (g i)))(h2:?A9 D2 (VI W (g j)))(e:∀k,k≠i->k≠j->g k=f k):TA H' r (?uX) n W g:=by
 refine⟨by rw[qi3,qi3,x.1],by rw[h',List.map_set,List.map_set],fun k c ec=>?_⟩;rw[qr2,qi3]at ec;by_cases hkj:j=k
 . subst hkj;rw[?u,?o (by rw[x.1];exact hj)]at ec;cases ec;exact h2
 rw[?j hkj,qr2]at ec;by_cases hki:i=k
 . subst hki;ext x0;exact h1
 rw[?j hki]at ec;rw[e k (?yD hki) (?yD hkj)];exact keep c (qb0 ec) _ (?cT k c ec)
theorem jG{i j:Nat}{D1 D2 a:Addr}(h:a∈?uX):?jS\/a=D1\/a=D2:=by
 rcases qm3 h with h | h
 . rcases qm3 h with h | h
   . exact ?iH
   . exact ?J (?iH)
 . exact ?J (?iB)
theorem J3{l i:Nat}(h:i<l):tL l (?j8:Int)=?c i:=by
 unfold tL;rw[?dR,?dR,qe6]
universe e9
noncomputable def mNames:?a1 Str:=["turn","blend","put_in","meet","shrink","shrink_row"]
structure LX(H:Hp)(C p r b:Addr)(sv:?dV V)[?aY][?Q](N:?bV):Prop where
 ob:Ij fun dx fs=>?y6 C fs/\Dp (?y8 "rows" (?f r)) (?y8 "backs" (?gA)) (?aG (?qT:Str)=sv) ((∀m∈mNames,?sJ)) (fs.length<=10)
 rw:∃as,TA H r as n W s.1/\∀a∈as,?uB
 bk:∃bs,TA H b bs n n s.2/\∀a∈bs,?uB
 ne:r≠b
 nr:¬N r
 nb:¬N b
 nn:∀a,N a->?w4
theorem LX.keep{H H':Hp}[?iJ][?iW][?iQ](e:?aB):?oD:=by
 ext n1;exact⟨?vX,⟨as,?tF,a2⟩,⟨bs,?rU,b2⟩,?b4,x.nr,x.nb,fun a ha z=>x.nn a ha (e.free z)⟩
theorem LX.refs{H:Hp}[?iJ][?iW][?iQ]:p≠r/\p≠b:=by
 obtain⟨dx,fs,h1,_⟩:=x.ob;obtain⟨as,a1,_⟩:=x.rw;obtain⟨bs,b1,_⟩:=x.bk;exact⟨Eu h1 a1.2.1 ?R,Eu h1 b1.2.1 ?R⟩
noncomputable def tnS(t:Tn)[?Q]:?r:=(QY t s.1,QY (tnA t) s.2)
noncomputable def xO[?aY](f:Lat.Mat):Tn->Prop
 | .ad i j k=>i<n/\j<n/\?fI/\∀c,c<W->?hT k (f j c)
 | .mi i=>i<n
 | .sw _ _=>False
noncomputable def Vq(r b:Addr)(H H':Hp):Prop:=∀x o,x≠r->x≠b->H x=?T->H' x=?T
theorem Vq.of{r b:Addr}{H H':Hp}[?iY]:?g9:=fun _ _ _ _ e=>?l5
theorem Vq.trans{r b:Addr}{H H1 H2:Hp}(x:Vq r b H H1)(y:Vq r b H1 H2):Vq r b H H2:=fun a o n1 n2 e=>y a o n1 n2 (x a o n1 n2 e)
theorem Vq.l[?xE]:Vq r b H (upd H' r o):=?yY n1
theorem Vq.r[?xE]:Vq r b H (upd H' b o):=?yY n2
section
variable[?a2]
noncomputable def X2:Sp:=fun vs H Q _=>uK fun(r:Addr) (u:V) (as:?d1) ?cG (f:Lat.Mat) (t:Tn)=>M9 (vs=[?f r,u]) (?q4) (Rep K H u (QT t)) (xO n W f t) ?i6 ?hG (∀(D:Addr) (as':?d1) (H':Hp),?gH->?aB->TA H' D as' n W (QY t f)->(∀a∈as',(?jS\/?kQ)/\a≠D)->?uZ)
noncomputable def Mg[?d3]:Sp:=fun vs H Q _=>z8 fun(p dx C:Addr) (r b:V)=>B6 (vs=[?P,r,b]) ((C=CL\/C=CS)) (?y6 C []) (∀H',(∀fs,fs=?tI->H'=upd (upd H p (?U C dx (putF "rows" r []))) p (?U C dx fs)->?X))
noncomputable def Kg[?a2]:Sp:=fun vs H Q _=>iP fun(p:Addr) (u:V) (C r b:Addr) ?k8 ?cG ?cM ?kX (t:Tn)=>fW (vs=[?P,u]) ((C=CL\/C=CS)) (?k5) (Rep K H u (QT t)) (xO n W s.1 t) (xO n n s.2 (tnA t)) ?i6 ?hG (∀(r' b':Addr) (H':Hp),?lS->?sW->?vT->LX H' C p r' b' sv n W (tnS t s) N->?X)
noncomputable def V2:Sp:=fun vs H Q _=>∃A B:Int,vs=[?m A,?m B]/\0<A/\B≠0/\?uN/\?p3/\∀(L:Addr) (g a b:Int) (H':Hp),?aB->Dl K H' L [?m g,?m a,?m b]->?hK A B g a b->?v6
noncomputable def Mh[?a2]:Sp:=fun vs H Q _=>ZG fun(p C r b:Addr) ?k8 (n W i j:Nat) (A B:Int) ?cM ?kX=>WA (vs=[?P,?d0,?m j,?m A,?m B]) ((C=CL\/C=CS)) (?k5) ?fW (j<n) (?fI) ?i6 ?hG (0<A) (B≠0) (?uN) (?p3) (?l8) (∀(L:Addr) (g a c:Int) (H':Hp),?g9->?f9->Dl K H' L [?m g,?m a,?m c]->?hK A B g a c->LX H' C p r b sv n W (?j2 i j a c (-(B / g)) (A / g) s) N->?v6)
universe e9
noncomputable def Hds(W:Nat)[?a4](f m:Nat)(R:Lat.Mat):Prop:=∀j,f<=j->j<m->t j<W/\0<?aF/\?d9<L9
structure SX(CS:Addr)(H0 H:Hp)(p q:Addr)(M:?bV)[?aY][?a4](cnt:Nat)[?Q]:Prop where
 ex:∃r b,?tV/\?pQ/\?r2
 st:H q=?y4 (VI cnt fun i=>((t i:Nat):Int))
 same:?lW
 fp:?kU
 fq:?yL q
 mq:M q
 sm:n<=100/\W<=200/\cnt<=n
section
variable{CS:Addr}{H0 H H':Hp}{p q:Addr}{M:?bV}{n W cnt:Nat}[?aX]{s s':?r}
theorem SX.redo{H1:Hp}{r' b':Addr}[?nA](e:?kT)(sx:?gO p H1 H')(h1:H1 r'=none)(h2:H1 b'=none)(y:?zN r' b'):?tM:=by
 have s1:=?jD e;obtain⟨r,b,z,_⟩:=x.ex;obtain⟨dx,fs,hp,_⟩:=z.ob;exact⟨⟨r',b',y,s1.free h1,s1.free h2⟩,?zM x.st (e _ _ x.st),sx.same s1 x.fp,x.fp,x.fq,x.mq,?c0⟩
theorem SX.redo2{r b:Addr}[?nA](lx:?tV)(f1:?pQ)(f2:?r2)(fr:?g9)(_kp:?f9)(y:?zN r b):?tM :=
 ⟨⟨r,b,y,f1,f2⟩,fr _ _ (fun z=>?i7 ?rG) (fun z=>?h6 ?rG) x.st,?z1 f1 f2,x.fp,x.fq,x.mq,?c0⟩
theorem SX.re[?nA](h:s=s'):?xY cnt s':=h▸x
universe e9
theorem insAt_get{α:Type}(k:Nat)(y:α)(xs:?e7)(h:k<=xs.length)(j:Nat):(?sG)[j]?=if j<k then xs[j]? else if j=k then ?c y else xs[j-1]?:=by
 unfold insAt;by_cases h1:j<k
 . rw[?bI,qd1 (by rw[qc9];omega),qn6,?bI]
 . rw[?b8,qd6 (by rw[qc9];omega),qc9,Nat.min_eq_left h];by_cases h2:j=k
   . rw[?cK,h2,qh8];rfl
   . rw[?c1];obtain⟨e,rfl⟩:∃e,j=k+1+e:=⟨j-?W,O9m⟩
     rw[show k+1+e-k=e+1 by omega,List.getElem?_cons_succ,qv2]
     congr 1
     omega
theorem AI{α:Type}{xs:?e7}{i s:Nat}{y:α}(hi:?fV=?c y)(hs:s<=i)(j:Nat):(?cY s y (xs.eraseIdx i))[j]?=xs[Lat.mvI i s j]?:=by
 have hl:i<xs.length:=?vL;rw[?qL _ _ _ (by rw[qi7 hl];omega)];unfold Lat.mvI;by_cases h1:j<s
 . rw[?bI,?bI,List.getElem?_eraseIdx,?dR]
 . rw[?b8,?b8];by_cases h2:j=s
   . rw[?cK,?cK,hi]
   . rw[?c1,?c1,List.getElem?_eraseIdx];by_cases h3:j<=i
     . rw[?dR,?o h3]
     . rw[?v,?j h3]
       congr 1
       omega
theorem AO{α β:Type}(g:α->β)(k:Nat)(y:α)(xs:?e7):(?sG).map g=?cY k (g y) (?qH):=by
 unfold insAt;rw[qb5,qe0,qp2,qp3]
theorem Uz{α β:Type}(g:α->β):∀(xs:?e7) (i:Nat),(xs.eraseIdx i).map g=(?qH).eraseIdx i
 | [],_=>rfl
 | _::_,0=>rfl
 | x::xs,i+1=>?qW (g x::·) (Uz g xs i)
theorem TA.move{H H1:Hp}{r:Addr}{as:?d1}{n W i s:Nat}{f:Lat.Mat}{ci:Addr}[?a3][?aZ](hs:s<=i)(lS:as[i]?=?c ci)(h1:H1 r=?y4 (?cY s (?f ci) ((?eO).eraseIdx i)))(h2:∀a∈as,H1 a=H a) :
 TA H1 r (?qY) n W (Lat.moveR f i s)/\?t4:=by
 have mem:?t4:=fun a ha=>by
  obtain⟨j,hj⟩:=qg1 ha;rw[?u0]at hj;exact qb0 hj
 refine⟨⟨?_,?_,fun j c e=>?_⟩,mem⟩
 . unfold insAt;rw[qc3,qd0,qc9,qi6,qi7 (by rw[x.1];exact hi),x.1];omega
 . rw[h1,AO,Uz]
 . rw[?u0]at e;rw[h2 c (qb0 e),Lat.move_row];exact ?cT _ _ e
theorem GD{i s st:Nat}[?aX](hs:s<=i):?cY s (?cD ((st:Nat):Int)) (VI i fun k=>((t k:Nat):Int))=VI ?p fun k=>((?s8 t s st k:Nat):Int):=by
 apply qr4;intro j;rw[?qL _ _ _ (by rw[Bv];exact hs)];by_cases hj:j<i+1
 . rw[Cm hj];unfold Lat.insT;by_cases h1:j<s
   . rw[?bI,?bI,?fZ]
   . rw[?b8,?b8];by_cases h2:j=s
     . rw[?cK,?cK]
     . rw[?c1,?c1,?fZ]
 . rw[?v,?v,?h9,?h9]
theorem X5[?a4](p f:Nat)[?Q]:∀d l,l≠p->(?cU t p f s d).1 l=s.1 l
 | 0,_,_=>rfl
 | d+1,l,h=>by
   rw[Lat.shrS];show Lat.addR _ _ _ _ l=_;rw[Lat.addR_row_ne h];exact X5 t p f s d l h
noncomputable def bE[?aY][?a4](i f m:Nat)[?Q]:Prop:=∀d,d<=m-f->BO n W (?cU t i f s d)
noncomputable def iQ[?aY][?a4](i:Nat)[?Q]:Prop:=∀d,d<=i->Hds W t ?mG ?p (?vO).1/\bE n W t (i-d) ?mG ?p (?vO)
noncomputable def Ah5[?a4](spot i:Nat)(k:Int)[?Q]:?r:=?cU t i ?H (?dL i ?d (-k) s) ?jH
noncomputable def Y1[?nB][?Q]:?r:=?j2 ?d i a b (-(B / g)) (A / g) s
noncomputable def oO[?a4][?nB][?Q]:?r:=?cU t ?d ?H (Y1 ?d i A B g a b s) ?jH
noncomputable def Ah4[?a4][?nB][?Q]:?r:=?cU t i ?H (oO t ?d i A B g a b s) ?jH
structure qD[?aY][?a4](spot i:Nat)[?Q](Nx:?e4):Prop where
 bo:?l8
 hd:Hds W t ?d i s.1
 oth:?dW≠0/\(?dW).natAbs<L9
 add:∀k,?dW=k*?l7->bE n W t i ?H i (?dL i ?d (-k) s)/\Nx (Ah5 t ?d i k s)
 ble:∀g a b,?hK ?hA ?hN g a b->bE n W t ?d ?H i (Y1 ?d i ?hA ?hN g a b s)/\bE n W t i ?H i (oO t ?d i ?hA ?hN g a b s)/\Nx (Ah4 t ?d i ?hA ?hN g a b s)
structure zA(n W i:Nat)[?a4](s0:?r)(I:?q7):Prop where
 start:I 0 s0
 ok:∀spot s,?aQ->?m8->∃c,c<W/\?e1≠0
 skip:∀spot s,?hS->?m8->(∀c,c<=?dQ->?e1=0)->I ?H s
 meet:∀spot s,?hS->?m8->(∀c,c<?dQ->?e1=0)->?dW≠0->qD n W t ?d i s (I ?H)
noncomputable def Hl(W:Nat)(u:?i)(st:Nat):Prop:=(∀c,c<st->u c=0)/\u st≠0/\st<W
theorem Hl.one{W W':Nat}{u:?i}{a b:Nat}(h:Hl W u a)(k:Hl W' u b):a=b:=by
 rcases qk3 a b with e | e | e
 . exact ?bF (k.1 a e) h.2.1
 . exact e
 . exact ?bF (h.1 b e) k.2.1
theorem Hl.ex{W:Nat}{u:?i}(h:∃c,c<W/\u c≠0):∃st,?uD:=by
 obtain⟨c,hc,h0⟩:=h
 induction c using Nat.strongRecOn with
 | _ c ih =>
   by_cases z:∃d,d<c/\u d≠0
   . obtain⟨d,hd,hd0⟩:=z;exact ih d hd O9m hd0
   . refine⟨c,fun d hd=>?_,h0,hc⟩;exact qg0 fun k=>z ⟨d,hd,k⟩
structure fQ[?aY](J:?vB):Prop where
 step:∀i t s,i<n->J i t s->∃I,?vC/\∀spot st s',?aQ->?kY->?mC->(?fE) →
  iQ n W ?hH i (?zG i)/\J ?p ?hH (?j7 ?hH i (?zG i) ?p)
theorem IM{w n:Nat}{f g:?i}{h:?i}(h1:∀c,c<w->h c=f c)(h2:∀a,a<n->h ?z=g a):VI w f++VI n g=VI ?k h:=by
 apply qr4;intro j;by_cases e1:j<w
 . rw[qd1 (by rw[Bv];exact e1),Cm e1,?fZ,h1 j e1]
 . rw[qd6 ?cH,Bv];by_cases e2:j<w+n
   . rw[?fZ,Cm e2,←h2 (j-w) ?e,show w+(j-w)=j by omega]
   . ext x5
theorem UH{w n:Nat}[?d6]:Ju (VI ?k f) ?fX ?G=VI n ?o6:=by
 ext wQ;have s1:?mO ?k 0 ?fX=w:=?sU
 unfold Ju;rw[Bv,s1,←e,List.drop_append_of_le_length ?cH,List.drop_of_length_le ?cH,qn5];apply qi8;rw[Bv];simp only[HT.sIx];omega
theorem Ao1{w n:Nat}[?d6]:Ju (VI ?k f) ?G ?fX=VI w f:=by
 ext wQ;have s1:?mO ?k ?k ?fX=w:=?sU
 have s2:?mO ?k 0 ?G=0:=rfl;unfold Ju;rw[Bv,s1,s2,List.drop_zero,qw3,←e,qo7 ?cH,qi8 ?cH]
section
variable[?a2]
noncomputable def V1[?a2]:Sp:=fun vs H Q _=>UK fun ?i5 (L r b:Addr) ?k8 ?kX ?cB (T P PB:Lat.Mat) (J:?vB)=>fW (vs=[v,?m w,?f L]) (?y1 H T) (LX H CL L r b sv n n ?lL N) (n<=60) (w<=60) (fQ n ?k J) ((∀t,J 0 t (?mL w T P,PB))) ((∀i t s,J i t s->?f4)) (∀(tp D L' r' b':Addr) (as:?d1) [?a4] [?Q] (H':Hp),?aB->J n t s->Dl K H' tp [?f D,?f L']->TA H' D as n w s.1->LX H' CL L' r' b' ?G n n (fun x a=>s.1 x ?z,s.2) N->?gH->H L'=none->?sW->?vT->?rO)
noncomputable def Sw:Sp:=fun vs H Q _=>T7 fun(c:Addr) (W st:Nat) (u:?i)=>Dp (vs=[?f c]) (SqL K H c (VI W u)) (?uD) ?hG (Q (?m (st:Int)) H)
noncomputable def Kf[?d3]:Sp:=fun vs H Q _=>iP fun ?aS ?hL ?gS ?cG ?gK (cnt:Nat) ?cM (i f:Nat)=>d8 (vs=[?P,?d0,?m f]) (?r7) ?fW (f<=cnt) ((i<f\/cnt<=i)) (Hds W t f cnt s.1) (bE n W t i f cnt s) (∀H',?y2 cnt (?cU t i f s (cnt-f))->?X)
noncomputable def Xz[?d3]:Sp:=fun vs H Q _=>Ex9 fun ?aS ?hL ?gS ?cG ?gK ?j8 ?cM=>B6 ?fY (?xY ?p s) (iQ n W t i s) (∀H',?y2 ?p (?j7 t i s ?p)->?X)
noncomputable def DR[?d3]:Sp:=fun vs H Q _=>iP fun ?aS ?hL ?gS ?cG ?gK (?d i:Nat) ?cM (Nx:?e4)=>K8 (vs=[?P,?m ?d,?d0]) (?xY i s) (?hS) ?fW (qD n W t ?d i s Nx) (∀H' s',?y2 i s'->Nx s'->?X)
noncomputable def X0[?d3]:Sp:=fun vs H Q _=>mP fun ?aS ?hL ?gS ?cG ?gK ?j8 ?cM (I:?q7)=>K8 (vs=[?P,?d0]) (?xY i s) ?fW (?vC) ((∀j,j<i->t j<W)) (∀H' spot st s',?aQ->?kY->?mC->(?fE)->SX CS H0 H' p q M n W ?hH ?p (?zG i)->?X)
noncomputable def dS[?d3]:Sp:=fun vs H Q _=>T7 fun ?tR (r b:V)=>E4 (vs=[?P,r,b]) (?y6 CS []) (∀q H' fs,H q=none->fs=putF ?qT (?f q) (?tI)->?lS->?A9 q []->H' p=?c (?U CS dx fs)->?X)
universe e9
universe Hb
namespace L2
open PySem PySem.Spec PyProof.Rows PySem.SeqAt
theorem Yz(a b:Addr)(ms ns:?jO):Meets (Builtin.«dict.__ne__» ?pV) (fun A R s=>?uY/\?qS/\R (.ok (.ret (?gQ ?k1))) s) :=
 Meets.of_wp fun prog w A R s hs=>by
  obtain⟨ha,hb,h⟩:=hs
  show ?I ?hP A.in1 (do
   let (self,other) ←Builtin.Dict.dictSlotArgs ?kC ?pV
   if !(←isInstance other (.type "dict")) then rule s!"dict.{?kC}.not-a-dict";return ←ret .notImplemented
   ret (?gQ ((←Builtin.Dict.samePairs s!"dict.{?kC}" (←?nJ self) (←?nJ other))==false))) _ _ s
  unfold Builtin.Dict.dictSlotArgs;refine qa3 (qa3 (qv0 ?vF ?_));refine qa3 (?gP);refine ?gP;refine qa3 (qu2 (T:="dict") (b:=true) ?vZ isSubtype_dict_dict ?_);rw[?j ?aO];refine qa3 (qb4 (qa3 (qb4 (qa3 (S0 ha hb ?_)))));have e:∀b:Bool,(b==false)=!b:=?jV
  rw[e];exact qb4 ⟨_,rfl,h⟩
theorem RcNeAt.dicts{A:Around}{s:Shared}{a b:Addr}{ms ns:?jO}(ha:?uY)(hb:?qS)(hu:A.units<cLine) :
 RcNeAt A s (?d8) (?gA) ?k1:=fun prog w E Q h =>
 richCompare_meets_room (op:=.NotEq) ?vF ?vZ PySem.F.slot_dict_ne PySem.F.entry_dict_ne (PySem.F.args_dict_ne_2 _ _) (Yz a b ms ns)
  ⟨ha,hb,show Value.bool ?k1≠Value.notImplemented/\_ from⟨(fun x=>nomatch x),h⟩⟩ hu
inductive vV(x:V)(y:V)(H:Hp)(Q:VK):Prop
 | mk:∀a b ms ns,(x=?d8)->(y=?gA)->(?hX)->(Rd H b (.dK (cK ns)))->(Q (?nK) H)->?s3
noncomputable def Az0:R2:=fun x y H Q=>?s3
section
variable{X:Cx}{n:Nat}[?d7]
theorem oA(hu:X.A.units+n<cLine):OpR X (compareOp .NotEq) Az0:=by
 intro Ac s σ H x y v u Q I rx ry h;obtain⟨a,b,ms,ns,rfl,rfl,ha,hb,q⟩:=h;cases rx;cases ry;exact RcNeAt.dicts (I.idict ha) (I.idict hb) O9m X.prog X.w X.xe _ ⟨?nK,H,I,rfl,q⟩
theorem mH(hc:?oG):?xS X.K:=by
 intro Ac s σ H xs us Q I r h;obtain⟨p,bs,rfl,hq,q⟩:=h;obtain⟨u,rfl,ru⟩:=Sk r;cases ru;obtain⟨its,rv,pl,hz⟩:=I.list hq;have hh:X.A.handled=none:=?v0
 have rel:∀(i:Nat) (v:Value),its.toArray[i]?=?aL->∃b,?g3=?c b/\v=?gQ b:=fun i v e=>by
  have e':its[i]?=?aL:=?fC
  have hlt:i<its.length:=(?fP e').1;have l1:=rv.length;rw[qa4]at l1;have hb:?g3=?c (bs[i]'(O9m)):=by simp<;>omega
  obtain⟨u,hu,ru⟩:=rv.get (i:=i) (x:=V.bl (bs[i]'(O9m))) (by rw[qa9,hb];rfl);rw[e']at hu;cases hu;exact⟨_,hb,ru⟩
 refine call_any_walk (qs9 pl.isList ?_);refine⟨?M,[s.heap.objs.size,p],[s.heap.objs.size],?nS,_,_,?nW,rfl,Walks.list (show X.A.in1.handled=none from hh) ?M p ?_ ?l0,⟨⟨_,?kF,rfl,rfl⟩,?_⟩,?_,fun h' tk k=>?_⟩
 . obtain⟨o,_,ho,_⟩:=pl;exact qc7 (qb2 ho)
 . exact pl.isList.at fun o e=>qa5 _ e
 . intro i v s' Q' E' hv hQ;obtain⟨b,hb,rfl⟩:=rel i v hv;dsimp only at hQ;rw[hb]at hQ;exact qj4 hQ
 . have e:(?jF ?nS).any (?nW)=bs.any id:=by
    have l1:=rv.length;rw[qa4]at l1;rw[qc1,←l1];rw[ql6,qo9,qo9];constructor
    . rintro ⟨i,hi,hx⟩;have hlt:=qe5.mp hi;have hb:?g3=?c bs[i]:=?gF
      rw[hb]at hx;exact⟨_,qe4 hlt,hx⟩
    . rintro ⟨b,hb,hx⟩;obtain⟨i,hi⟩:=qg1 hb;refine⟨i,qe5.mpr ?vL,?_⟩;rw[hi];exact hx
   rw[e];have I1:Bl X Ac σ H { s with heap:=h',toks:=tk }:=I.kept (fun b o e=>k b o (by simp;exact qc7 (qb2 e)) (qa5 _ e));exact⟨.bl (bs.any id),H,I1,rfl,q⟩
theorem aZ:bootBuiltins "any"=?c (.builtin "any"):=?nR
theorem Y8(hc:?oG)(hK:X.K=K:=by rfl):?xS K:=by subst hK;exact mH hc
universe e9
universe L2
namespace Hb
open PySem L2
noncomputable def WE:?a1 Str:=["straighten","step","put_in_order","share"]
section
variable[?d7]{H H':Hp}
theorem Ze{nm a:Addr}(h:a≠nm):?p5=H a:=Tg h
theorem lP{nm a:Addr}(h:a=nm):?p5=none:=Zd h
theorem uR[?iN]{a:Addr}{xs:?eU}(h:SqL K H a xs)[?iL]:SqL K H' a xs:=by
 rcases h with(h|⟨o,h⟩) | h
 . ext wZ
 . ext wW
 . exact ?iB
theorem iY[?iN][?xK][?iL]:Dl K H' a xs:=by
 rcases h with(h|⟨o,h⟩) | h
 . ext wZ
 . ext wW
 . exact ?iB
theorem Ad7{nm:Addr}{ys:?eU}{o:HO}[?xK](hn:H nm=?y4 ys):Dl K (upd H nm o) a xs:=by
 rcases h with(h|⟨u,h⟩) | h
 . exact ?t (?t (?vG))
 . exact ?t (?J ⟨u,?vG⟩)
 . exact ?iB
theorem nA{m i:Nat}[?d6]{x:Int}(hi:i<m):(VI m f).set i (?m x)=(Ho m fun k=>if k=i then x else f k).map ?cD:=by
 show _=VI m _;apply qr4;intro j;rw[qr2,Bv];by_cases hj:i=j
 . subst hj;rw[?u,?o hi,Cm hi,?u]
 . rw[?j hj];by_cases h2:j<m
   . rw[Cm h2,Cm h2,?j ?tQ]
   . ext x5
theorem Ba9[?iN]{v:V}[?bK]{f:?aK}(h:?y1 H f)[?iL]:?y1 H' f:=by
 obtain⟨a,us,rfl,hq,hl,hr⟩:=Hk h;refine fH (uR hq hp sx) hl ?iI;have e:=qa0 (l:=us) (i:=i) O9m;obtain⟨_,b,eb,hb⟩:=hr i _ e;exact⟨b,by rw[e,eb],uR hb hp sx⟩
universe e9
theorem LX.x{H H':Hp}[?iJ][?iW]{q D dx:Addr}{fs:?a1 (Str × V)}[?iQ](hq:H q=?c (?U D dx fs))(hqp:q≠p)(sx:?gO q H H')(kp:?f9):?oD:=by
 ext n1;exact⟨⟨dx,fs,sx _ _ hqp.symm h1,h2⟩,⟨as,a1.x hq sx,a2⟩,⟨bs,b1.x hq sx,b2⟩,?b4,x.nr,x.nb,fun a ha=>kp a (x.nn a ha)⟩
theorem LX.more{H H':Hp}[?iJ]{N N':?bV}[?iQ](e:?aB)(h:∀a,N' a->N a\/?kQ)(hn:∀a,N' a->H' a≠none):?zC H' N':=by
 ext n1;refine⟨?vX,⟨as,?tF,?zS ?m5 ?m5⟩,⟨bs,?rU,?zS ?l2 ?l2⟩,?b4,?eI,?eI,hn⟩
 . exact ?r4 ?i4 (a1.there.2 a ha)
 . exact ?r4 ?rN (b1.there.2 a ha)
 . exact(h r z).elim x.nr a1.there.1
 . exact(h b z).elim x.nb b1.there.1
structure WX[?aD](CL CW:Addr)(H0 H:Hp)(p L R nm:Addr)[?a6](M:?gN)[?d5](ns:?cR):Prop where
 ob:Qt fun tv dx fs=>?y6 CW fs/\d8 (?y8 "table" tv) (?y8 "width" (?jT)) (?y8 "left" (?f L)) (?y8 "right" (?f R)) (?y8 "numbers" (?f nm)) ((∀m∈WE,?sJ)) (fs.length<=10) (∀M',M=?c M'->Rep K (Th H ?oP) tv (dT n w M'))
 li:T7 fun r1 b1 r2 b2=>?uW/\?oY/\B6 (?yL r1) (?yL b1) (?yL r2) (?yL b2)
 nu:H nm=?y4 (ns.map ?cD)
 same:?lW
 fr:?kU/\?yL L/\?yL R/\?yL nm
 ne:p≠L/\p≠R/\L≠R
 sm:n<=60/\w<=60
noncomputable def MQ(m:Nat)(M:Lat.Mat):?cR:=((?jF m).map fun i=>?iA).filter fun x=>?L (x≠0)
theorem WX.keep[?eW]{H0 H H':Hp}[?n3][?iK][?iY]:?xV H' M:=by
 ext wO;exact⟨⟨tv,dx,fs,?vP,l1,l2,l3,l4,l5,l6,l7,?AC (NF s)⟩,⟨r1,b1,r2,b2,lx.keep s,?v3,f⟩,?rZ,?jD s,x.fr,?b4,?c0⟩
theorem WX.num[?eW]{H0 H:Hp}[?n3]{ns ns':?cR}(x:?vH):WX K CL CW H0 (?zX H) p L R nm n w M l r ns':=by
 ext wO;have hpn:p≠nm:=Eu hp ?cN ?R
 have go:∀{q r b:Addr}{m:Nat}{s:?r}[?iW],LX H CL q r b ?G m m s N->N nm->LX (?zX H) CL q r b ?G m m s N:=fun {q r b m s N} y hN=>by
  obtain⟨d2,f2,e1,e2⟩:=y.ob;obtain⟨as,a1,a2⟩:=y.rw;obtain⟨bs,b1,b2⟩:=y.bk;refine⟨⟨d2,f2,by rw[Aj (Eu e1 ?cN ?R)];exact e1,e2⟩,⟨as,a1.put (fun z=>y.nr ?f8) fun a ha z=>?i4 ?f8,a2⟩,⟨bs,b1.put (fun z=>y.nb ?f8) fun a ha z=>?rN ?f8,b2⟩,y.ne,y.nr,y.nb,fun a ha z=>?_⟩;by_cases e:a=nm
  . rw[e,Ab]at z;cases z
  . rw[Aj e]at z;exact y.nn a ha z
 refine⟨⟨tv,dx,fs,by rw[Aj hpn];exact hp,l1,l2,l3,l4,l5,l6,l7,?AC (aQ fun a o n e=>?zF n)⟩,⟨r1,b1,r2,b2,go lx (?t rfl),go ly rfl,f⟩,Ab,fun a o e=>by rw[Aj (Ao e x.fr.2.2.2)];exact ?jE,x.fr,?b4,?c0⟩
theorem WX.drop[?eW]{H0 H:Hp}[?n3][?iK]:?xV H ?G:=by
 ext n4;exact⟨⟨tv,dx,fs,hp,l1,l2,l3,l4,l5,l6,l7,?jY⟩,x.li,?cN,x.same,x.fr,?b4,?c0⟩
theorem WX.left[?eW]{H0 H H1 H':Hp}{p L R nm r1 b1 r2 b2 r' b':Addr}[?bK]{M:?gN}{l r l':?r}[?iK](lx:?uW)(ly:?oY)[?xC]
 (s:?kT) (sx:?gO L H1 H') (h1:?yP H1 r') (h2:?yP H1 b') (y:LX H' CL L r' b' ?b0 n n l' ?g2):WX K CL CW H0 H' p L R nm n w ?b0 l' r ns/\?yK H' r:=by
 ext n4;obtain⟨dl,fl,hL,_⟩:=lx.ob;obtain⟨dl',fl',hL',_⟩:=y.ob;obtain⟨n1,n2,n3⟩:=x.ne;have kp:Kp H1 H':=Kp.x sx hL';have lz:=(?v3).x (s _ _ hL) n3 sx kp;have s0:=?jD s;exact⟨⟨⟨tv,dx,fs,sx _ _ n1 (?vP),l1,l2,l3,l4,l5,l6,l7,?jY⟩,⟨r',b',r2,b2,y,lz,s0.free h1,s0.free h2,f3,f4⟩,sx _ _ (Eu ?cN hL ?R) (?rZ),sx.same s0 x.fr.2.1,x.fr,?b4,?c0⟩,lz⟩
theorem WX.right[?eW]{H0 H H':Hp}{p L R nm r1 b1 r2 b2:Addr}[?bK]{M:?gN}{l r r':?r}[?iK](lx:?yO H ?b0)(ly:?yK H r)(f1:?yP H0 r1)(f2:?yP H0 b1)[?xC]
 (fr:Vq r2 b2 H H') (kp:?f9) (y:?yK H' r'):WX K CL CW H0 H' p L R nm n w ?b0 l r' ns/\?qC:=by
 ext n4;obtain⟨dl,fl,hL,hL2⟩:=lx.ob;obtain⟨as,a1,a2⟩:=lx.rw;obtain⟨bs,b3,b4⟩:=lx.bk;obtain⟨IK,c1,_⟩:=ly.rw;obtain⟨bs2,c2,_⟩:=ly.bk;have no:∀a C d f,H a=?c (?U C d f)->H' a=?c (?U C d f):=fun a C d f e=>fr _ _ (Eu e c1.2.1 ?R) (Eu e c2.2.1 ?R) e
 have lz:?qC:=⟨⟨dl,fl,no _ _ _ _ hL,hL2⟩,⟨as,a1.keep (fun o e=>?xT ?i7 ?i7) fun a ha o e=>?xT ?i4 ?i4,a2⟩,
  ⟨bs,b3.keep (fun o e=>?xT ?h6 ?h6) fun a ha o e=>?xT ?wI ?wI,b4⟩,lx.ne,?i7,?h6,fun a ha=>kp a (lx.nn a ha)⟩
 exact⟨⟨⟨tv,dx,fs,no _ _ _ _ hp,l1,l2,l3,l4,l5,l6,l7,?jY⟩,⟨r1,b1,r2,b2,lz,y,f1,f2,f3,f4⟩,fr _ _ (?yD ly.nr) (?yD ly.nb) ?cN,?z1 f3 f4,x.fr,?b4,?c0⟩,lz⟩
theorem Pj(i:Nat)(M:Lat.Mat):MQ ?p M=if ?iA=0 then ?m2 else ?m2++[?iA]:=by
 unfold MQ;rw[qk4,qb5,qn8];by_cases h:?iA=0<;>simp[h]
theorem sP(i:Nat)(M:Lat.Mat):?zJ ?m2 i:=by
 unfold MQ;refine qa6 (qh9 _ _) ?_;rw[qa4,qo2];ext Z
structure Sg[?a6](M:Lat.Mat)[?d5](Nx:?jZ):Prop where
 ex:∃J1,fQ n ?k J1/\(∀t,J1 0 t (?mL w M l.1,l.2))/\(∀i t s,J1 i t s->?f4)/\∀t1 s1,J1 n t1 s1 →
  ∃J2,fQ w ?aM J2/\(∀t,J2 0 t (?mL n (?zR i) r.1,r.2))/\(∀i t s,J2 i t s->∀j,j<i->t j<n+w)/\∀t2 s2,J2 w t2 s2 →
    Nx (fun i j=>s2.1 j i) (fun x a=>s1.1 x ?z,s1.2) (fun x a=>s2.1 x (n+a),s2.2)
section
variable[?a2]
noncomputable def Of:Sp:=fun vs H Q _=>T7 fun ?i5 ?cB ?iD=>K8 (vs=[v]) (?y1 H M) ?i6 (w<=1000) ((?i8->∀H',?aB->Q (.bl true) H')) ((¬?i8->∀H',?aB->Q (.bl false) H'))
noncomputable def DT[?a2]:Sp:=fun vs H Q _=>uK fun ?aS ?tR ?i5 ?cB ?iD=>d8 (vs=[?P,v,?jT]) (?lW) (?kU) (?y6 CW []) (?y1 H0 M) (n<=60) (w<=60) (∀L R nm H',WX K CL CW H0 H' p L R nm n w ?mM ?dU ?dU []->?X)
noncomputable def DS[?a2]:Sp:=fun vs H Q _=>UK fun ?aS ?gE ?cB ?iD ?fA (ns:?cR) (Nx:?jZ)=>B6 ?fY (?xV H ?mM) (?zK Nx) (∀L' R' M' l' r' H',Nx M' l' r'->WX K CL CW H0 H' p L' R' nm n w (?c M') l' r' ns->?X)
noncomputable def Ow[?a2]:Sp:=fun vs H Q _=>iP fun ?aS ?gE ?cB ?iD ?fA (U:?r0)=>Dp ?fY (WX K CL CW H0 H p L R nm n w ?mM l r []) (?zK (fun M' l' r'=>∃m,?mZ)) ((∀m M' l' r',?mZ->¬?pZ->Sg n w M' l' r' (fun M2 l2 r2=>∃m',m'<m/\U m' M2 l2 r2))) (∀L' R' m M' l' r' H',?mZ->?pZ->WX K CL CW H0 H' p L' R' nm n w (?c M') l' r' (MQ ?e6 M')->?X)
structure DF[?a6](i j:Nat)[?Y][?d5]:Prop where
 p1:0<f i/\?rC<L9
 p2:f j≠0/\?nY<L9
 bl:BO n n l/\BO n n (?dL i j 1 l)
 br:BO w w r
noncomputable def wQ(i j:Nat)(g:Int)[?Y]:?i:=Lat.put2 f i j g (?aT*f j)
noncomputable def zJ(i j:Nat)(g b:Int)[?Y](l:?r):?r:=?dL j i (-(b*f j / g)) (?dL i j 1 l)
noncomputable def RG(i j:Nat)(g a b:Int)[?Y](r:?r):?r:=?j2 i j a b (-(f j / g)) (?aT) r
noncomputable def aF[?a2]:Sp:=fun vs H Q _=>ZG fun ?aS ?gE (n w m i j:Nat) ?fA (f:?i)=>fW (vs=[?P,?m (i:Int),?m (j:Int)]) (?yM l) (i<j) (j<m) (m<=n) (m<=w) (?mH) ((?k3->Q .non H)) (∀g a b H',?mE->WX K CL CW H0 H' p L R nm n w ?G (zJ i j g b f l) (?z0 b) (Ho m (wQ i j g f))->?X)
noncomputable def AF[?a2]:Sp:=fun vs H Q _=>UK fun ?aS ?gE (n w m:Nat) ?fA (f:?i) (V:?gC)=>M9 ?fY (?yM l) (m<=n) (m<=w) (V 0 f l r) ((∀d i j f l r,V d f l r->d<5*m+m*m->i<j->j<m->?mH/\(?k3->V ?aV f l r)/\∀g a b,?mE->V ?aV (wQ i j g f) (zJ i j g b f l) (?z0 b))) (∀d f' l' r' H',V d f' l' r'->?rA m m f'->WX K CL CW H0 H' p L R nm n w ?G l' r' (Ho m f')->?X)
universe e9
structure d6[?a6](A:Lat.Mat)(Fin:?gC):Prop where
 ex:∃(U:?r0) (Y:Nat->?gC),Sg n w A ?dU ?dU (fun M l r=>∃m,?kW) ∧
  (∀m M l r,?kW->¬?i8->?zK (fun M' l' r'=>∃m',m'<m/\U m' M' l' r')) ∧
  (∀m M l r,?kW->?i8->∃k f,MQ ?e6 M=Ho k f/\k<=n/\k<=w/\Y k 0 f l r) ∧
  (∀k d i j f l r,?vM->d<?m3->i<j->j<k->?mH/\(?k3->Y k ?aV f l r)/\∀g a b,?mE->Y k ?aV (wQ i j g f) (zJ i j g b f l) (?z0 b)) ∧
  ∀k d f l r,?vM->?qN
structure c9[?aD](H H':Hp)[?nD](n w k:Nat)[?Y][?d5]:Prop where
 same:?aB
 tup:Dl K H' tp ?qE
 num:?A9 nm ?tS
 left:?zU H'
 lback:?yT H'
 right:?yS H'
 rback:?zV H'
 new:∀a,a=nm\/a=r1\/a=D1\/a=D2\/a=b2->?kQ/\∃us,?A9 a us/\us.length<=60
section
variable[?aD]
noncomputable def Sx:Sp:=fun vs H Q _=>z8 fun ?i5 ?cB (A:Lat.Mat) (Fin:?gC)=>K8 (vs=[v,?jT]) (?y1 H A) (n<=40) (w<=60) (d6 n w A Fin) (∀[?nD] (k:Nat) [?Y] [?d5] (H':Hp),?qN->?rA k k f->k<=n->k<=w->?u8->?rO)
universe e9
universe Hb
namespace Hb
open Lat
section
variable[?eX]
theorem BB.bo{n W β:Nat}[?eZ](h:?r9)(hb:β<=big):?l8:=⟨(?r8).1,(?r8).2.1⟩
theorem dO{n W w i:Nat}[?f0]{R0 B0:Mat}[?aX]{π b β:Nat}[?xP](hW:W=w+n)(dl:Fe n w R0 B0)(bb:?xW β (R0,B0))(hb:?l4)(hπ:?eP)(ZO:?nN)
 (hG:∀spot (s:?x) st,?aQ->?q2->Hl W (s.1 i) st->G st)
 (hd:∀t1 Y R1 B1 R2 B2,UJ n W w i G R0 B0 t1 Y R1 B1->On n W w i R1 B1 t1 0 R2 B2->∀j,j<=i->(R2 j (t1 j)).natAbs<L9) :
 ∃I,zA n W i t (R0,B0) I/\∀spot st s',?aQ->?kY->?mC->(?fE) →
   iQ n W ?aA i (?cO)/\G st/\UJ n W w i G R0 B0 ?aA (?y7 i) (?cO).1 (?cO).2 ∧
   On n W w i (?cO).1 (?cO).2 ?aA 0 (?kM).1 (?kM).2 ∧
   ?xW (?eQ) (?kM):=by
 have hi:=H.hi
 have VO:∀spot,?aQ->?hZ<=?h1:=fun spot hs=>by
  unfold Fu;exact qa6 (qb7 _ hs) ?dK
 refine⟨fun spot s=>?q2/\?xW (β+?hZ) s,⟨⟨Dj.start H,by rw[Nat.zero_mul];exact bb⟩,?_,?_,?_⟩,?_⟩
 . rintro spot s _ ⟨p,_⟩;obtain⟨c,hc,h0⟩:=(p.good.dual dl).row hi;exact⟨w+c,O9m,h0⟩
 . rintro spot s hs ⟨p,q⟩ hz;refine⟨p.skip hz,q.mono ?_⟩;rw[qf5];omega
 . rintro spot s hs ⟨p,q⟩ hz h0;have jM:=VO ?H hs;rw[qf5,qf2]at jM;have en:β+?H*?d2=β+?hZ+?d2:=by rw[qf5,qf2];omega
   have lA:(?l7).natAbs<=?C:=by rw[p.old ?d _ ?l hs];exact H.hd ?d hs
   have lB:=p.pv ?d ?l hs;refine⟨?aR q O9m,?zY ⟨H.lt j hj2,p.pos j hj2,VA (π:=π) ?_ O9m⟩,⟨h0,VA lB O9m⟩,?i0,fun g a b' sh=>?_⟩
   . rw[p.old j _ hj1 hj2];exact H.hd j hj2
   . obtain⟨m1,m2,m3⟩:=p.meetAdd H hs hz hk q;refine⟨?tC,m1,?_⟩;rw[en];exact m3 _ O9m
   . obtain⟨m1,m2,m3,m4⟩:=p.meetBlend H hs hz (?nP (p.pos ?d hs) lA lB) q;refine⟨?tC,?zZ m4,m1,?_⟩;rw[en];exact m4 _ O9m
 . rintro spot st s' hs ⟨p,q⟩ hB hex;have hGs:=hG ?d s' st hs p hB;obtain⟨e1,e2,e3,e4,e5⟩:=rQ H p hs hB.1 hB.2.1 hB.2.2 hGs ZO hex q;refine⟨fun d hd'=>⟨?zY ?_,fun m hm=>?aR (e5 d hd' m O9m) hb⟩,hGs,e1,e2,e4 _ ?l⟩;obtain⟨dn,_,_⟩:=Zo e1 hi (e3.mono (qu5 (VO i ?l) β)) d O9m;have hh:=hd _ _ _ _ _ _ e1 e2 j O9m;rw[e2.hd j ?e]at hh;have hx:=dn.hd j O9m;refine⟨e1.lt j O9m,(dn.s0).pos j O9m,?_⟩;rw[hx];exact hh
universe e9
noncomputable abbrev JF[?a6](M:Mat):?nL:=fun i t s=>Do n ?k w i ?eG M one t s.1 s.2
theorem V9{n w b0 D π b β:Nat}{M:Mat}(hM:∀r c,r<n->?bR->?qO)(dets:Oo n ?eG M D)(h1:?h5)(h2:?sN)(h3:?fB)[?xI](hbig:?oA)(hπ:?eP)(dl:Fe n w M one) :
 fQ n ?k (JF n w M):=by
 refine ?p6;have iD:?kS:=qa6 (qb7 _ (qd8 hi)) h2;have H:=LV hM ?a9 hJ hi h1 iD h3 h4;have bb:BB n ?k ?e3 0 β (s.1,s.2):=Sc hM ?a9 (fun k a=>rfl) hJ (qd8 hi) iD h4 hβ hβ2
 obtain⟨I,P,e⟩:=dO H rfl (hJ.good.dual dl) bb (hbig i hi) hπ hJ.pg (fun _ _ _ _ _ hB=>hB.2.2) fun t1 Y R1 B1 R2 B2 I1 D1 j hj=>by
  have:=?yX hJ.next (show i+1<=n from hi);exact VA (qa6 ?F h1) O9m
 refine⟨I,P,?nE⟩;obtain⟨e1,_,e3,e4,_⟩:=e ?d st s' hs hI hB hex;exact⟨e1,hJ.next e3 e4⟩
theorem JF.lt[?bK]{M:Mat}:∀i t s,JF n w M i t s->?f4:=fun _ _ _ h j hj=>?oS
noncomputable def JL(n w r:Nat)(M B0:Mat)(kt:?g)(hd:?i)(π b η β:Nat):?nL:=fun i t s =>
 (i<=r/\?y3 i ?bO/\?sY) ∨
 (r<=i/\?y3 i ?eG/\?pJ)
theorem JL.lt{n w r:Nat}{M B0:Mat}[?d4]{π b η β:Nat}:∀i t s,?z9 i->?f4:=fun _ _ _ h j hj=>by
 rcases h with⟨_,h,_⟩|⟨_,h,_⟩<;>exact h.st.st.lt j hj
theorem V5{n w r E π b η β:Nat}{e:Int}{T P PB:Mat}[?d4][?eY](he0:0<e)[?iM][?xQ][?xJ]
 (hβ:?m7) (hbig:β+?eB<=big) (hE:E<=?C) [?iT] (hb:n*E<=?D) (hπb:?fF) (hπ:?eP) (hη9:η<=8990) :
 fQ n ?k (JL n w r ?B PB kt hd π b η β):=by
 have rn:=g.sq.rn;have dets:=Wi (P:=P) g.dets;have YE:∀{i:Nat}[?aX][?eZ],i<=r->?nO->?u7:=fun hi h j hj=>VA (qa6 (h.st.headD ?a9 hi hj) hE) O9m
 have hηN:∀j,?a8->j<n->?sV:=fun j h1 h2=>by
  ext iR;have q:=?p0;ext wL
  exact_mod_cast this
 refine ?p6;by_cases hir:i<r
 . obtain⟨_,h,bb⟩:i<=r/\?nO/\?sY:=by
    rcases hJ with hJ|⟨h,_⟩
    . exact hJ
    . omega
   have H:=lI g (qe8 w n) h hir hE he (qa6 (qb7 _ (qd8 hi)) hb) hπb;have tm:?sD<=?aW:=KP π b hir;have tm':?sD=?dO+?h1:=rfl;have tn:?aW<=?eB:=qe8 _ _
   have hG:∀spot (s':?x) st,?aQ->Dj n ?k w i ?bO s.1 s.2 t π b ?d s'.1 s'.2->Hl ?k ?oE st->st<w:=fun spot s' st hs p hB=>by
    obtain⟨c,hc,h0⟩:=QZ he0 g.sq (fun k c _ hc=>?cV) hir ((h.st.good.mono (qm8 i)).trans p.good) ?l dl;rcases qg7 c st with z | z
    . exact ?bF (hB.1 c z) h0
    . exact qb8 z hc
   obtain⟨I,Pu,ev⟩:=dO (C:=?lN) (δ:=?k2) (β:=β+?dO) H rfl (h.st.good.dual dl) bb O9m hπ h.st.pg hG fun t1 Y R1 B1 R2 B2 I1 D1 j hj=>by
    have:=?yX h.st.next (show i+1<=r from hir);exact VA (qa6 ?F hE) O9m
   refine⟨I,Pu,?nE⟩;obtain⟨e1,e2,e3,e4,e5⟩:=ev ?d st s' hs hI hB hex;exact⟨e1,?t ⟨hir,h.next hir e2 hs e3 e4,by rw[tm',←qr9];exact e5⟩⟩
 . have qR:r<=i:=O9m
   obtain⟨h,ab,bb,h9⟩:?z3 ?eG/\?pJ:=by
    rcases hJ with⟨h1,h,bb⟩|⟨_,h⟩
    . have e:i=r:=O9m
      subst e;refine⟨h.wide ?u4,?_,?_,YE ?l h⟩
      . rw[qh8,Nat.zero_mul];exact uH bb rn hβ
      . rw[qh8];exact bb
    . exact h
   have hsd:r+?h0=i:=O9m
   have row:∀c,?e1=?t0:=fun c=>h.st.good.rest i c ?l;have zero:∀c,c<kt i->?e1=0:=fun c hc=>by rw[row];exact ?e9 i c qR hi hc
   have hd0:0<s.1 i (kt i):=by rw[row,?h7 i qR hi];exact K.pos i qR hi
   have ktW:=K.lt i qR hi;have bg:Hl ?k (s.1 i) (kt i):=⟨zero,O9m,ktW⟩
   have em:?wB=?rD+(?v7+(r+?h0)+3):=rfl;have emo:?wB<=?gZ:=LW _ _ _ O9m;have tn:?eB=?aW+?gZ:=rfl;rw[hsd]at em;refine⟨fun _ s'=>s'=s,⟨rfl,?_,fun _ _ _ hs _=>hs,?_⟩,?_⟩
   . rintro spot _ _ rfl;exact⟨kt i,ktW,O9m⟩
   . rintro spot _ hs rfl hz h0;exact ?bF (h.skip K qR hi hs ?l) h0
   . rintro spot st s' hs e hB hex;have e:=e.symm;subst e;have est:=hB.one bg;subst est
     have esp:spot=i:=by
      rcases qg7 ?d i with z | z
      . exact ?bF (h.skip K qR hi z (qd8 (hex z))) hB.2.1
      . omega
     subst esp
     have Ba5:insS ?d ?d ?g6 s=s:=by
      have m1:?f3 ?d ?d s=s:=by
       show(?bA s.1 ?d ?d,?bA s.2 ?d ?d)=s;rw[Qb,Qb]
      rw[insS,m1,?v]
     rw[Ba5];obtain⟨k1,k2,k3⟩:=h.last K qR hi (fun c hc=>hc) ktW (C:=?lN) (δ:=?k2) bb (fun k hk=>ab k ?d hk ?l hi);have hbd:?qG<=big:=O9m
     have st':=k1.st.st
     have hh:∀d,d<=?jL->∀j,?lD->(?dJ (insT t ?d ?g6) ?d s d).1 j (?fD)=?mA:=fun d hd j hj=>by
      obtain⟨l1,_⟩:=k2 d hd;have:=l1.rows j (?fD);rw[this];split
      . rename_i z
        have tl:?fD<?lV:=by
         have:=st'.inc j ?d z.2 O9m;have e:insT t ?d ?g6 ?d=?lV:=by unfold insT;rw[?v,?u]
         omega
        rw[zero _ tl,qf3,qq4]
      . rfl
     have hs9:∀j,?lD->(?mA).natAbs<L9:=fun j hj=>by
      unfold insT;rcases qg7 j ?d with z | z
      . rw[?K];exact h9 j z
      . have:j=spot:=O9m
        subst this;rw[?v,?u,row,?h7 j qR hi];exact VA (hηN j qR hi) O9m
     have hpos:∀j,?lD->0<?mA:=fun j hj=>by
      have:=st'.pos j O9m;rw[hh ?H ?l j hj]at this;exact this
     refine⟨fun d hd=>⟨?zY ⟨st'.lt j hj2,by rw[?o2];exact hpos j O9m,by rw[?o2];exact ?qU⟩,?tN⟩,?J ⟨O9m,k1,?_,?_,fun j hj=>by rw[hh ?H ?l j ?e];exact ?qU⟩⟩
     . rcases qg7 m d with z | z
       . have:=k3 d O9m m z;rw[this];exact ?aR (k2 d O9m).2 hbd
       . have e:m=d:=O9m
         subst e;exact ?aR (k2 ?fT O9m).2 hbd
     . have:=h.above K qR hi hηN ab (?uJ).1;rw[?oV,qf5,qf2];have e:?bU+((spot-r)*?aI+?aI)=?zO η+1:=O9m
       rw[e];exact this
     . rw[?oV,em];have:=(?uJ).2;rw[show ?dY+(?w0+(?zO spot+3))=?qG by omega];exact this
theorem OD{M:Mat}{k:Nat}(hp:∀x,x<k->0<M x x):∀m,k<=m->(∀x,k<=x->x<m->M x x=0)->MQ m M=Ho k ?jU:=by
 have base:∀j,j<=k->MQ j M=Ho j ?jU:=fun j=>by
  induction j with
  | zero=>intro _;rfl
  | succ j ih =>
    intro hj;have:=hp j O9m;rw[Pj,?v,ih ?e,Y2]
 intro m
 induction m with
 | zero=>intro h _;exact base 0 ?eT▸(by rw[?yN k 0])
 | succ m ih =>
   intro h hz;by_cases e:k=m+1
   . subst e;exact base _ ?l
   . rw[Pj,?o (hz m ?e ?e),ih ?e fun x h1 h2=>hz x h1 ?e]
noncomputable abbrev uC:Nat:=67000000
noncomputable def Om(n:Nat)(s:?x):Prop:=∀a b,a<n->b<n->pT n s.2 s.1 a b=?j3
theorem Om.one(n:Nat):Om n ?dU:=fun a b ha hb=>by
 show ?yV (fun k=>?kA k a*?kA k b)=_;rw[?E ha fun k _ hk=>by unfold Lat.one;rw[?j hk,qk7]];unfold Lat.one;rw[?u,qd5]
theorem Om.go[?bK]{T:Mat}{l:?x}{R B:Mat}(h:?hO)(e:∀a b,pT n B R a b=pT n l.2 (?h w T l.1) a b):Om n (?bC,B):=fun a b ha hb=>by
 have:=e a (w+b);rw[←h a b ha hb];refine Eq.trans ?F ?_;exact Al fun k _=>by rw[beside_hi]
theorem xA(i j:Nat):?tD<=1:=by
 unfold one;split<;>decide
theorem BC{n w W b:Nat}{T P:Mat}(hT:?zL ?dS ?D)(hP:∀i c,i<n->c<W->(P i c).natAbs<=?D):∀i c,i<n->c<w+W->(?t0).natAbs<=?D:=fun i c hi hc=>by
 unfold beside;split
 . rename_i h;exact ?u5
 . exact ?vV
theorem Wf{n w W b:Nat}{T P:Mat}(hT:∀i c,i<n->c<w->?dS<?D)(hP:?s n W b P):?s n (w+W) b ?B:=fun i c hi hc=>by
 unfold beside;split
 . rename_i h;exact ?u5
 . exact ?vV
theorem Wg{n w W b:Nat}{R:Mat}(h:?s n (w+W) b R):?s n W b ?bC:=fun i c hi hc=>h i ?dI hi O9m
theorem Lk{n W b b':Nat}{R:Mat}(h:?s n W b R)(hb:b<=b'):?s n W b' R:=fun i c hi hc=>qb3 (h i c hi hc) (qe7 ?aO hb)
theorem xP{e:Int}{D π:Nat}(h:e<=D)(hD:?h5)(h0:0<e):e.natAbs.log2<=π/\?k7:=by
 have h1:?k7:=by
  have:e.natAbs<=D:=O9m
  exact qa6 ?F hD
 refine⟨?_,h1⟩;have:e.natAbs.log2<?a0:=(Nat.log2_lt O9m).mpr (qb8 h1 (?gW));omega
theorem JL.done{n w r π b η β c:Nat}{M B0:Mat}[?d4][?aX][?eZ](rn:?bS)(h:?z9 n)(hc:?eB<=c):(∃G,?y3 n G)/\?s n ?k (β+c) s.1/\?s n n (β+c) s.2:=by
 have e:?eB=?aW+?gZ:=rfl;rcases h with⟨h0,h,bb⟩|⟨h0,h,_,bb,_⟩
 . have en:n=r:=O9m
   subst en;have:=?jM (show β+D5 π b n<=β+c by omega);exact ?oN
 . have:=?jM (show _<=β+c by omega);exact ?oN
universe Hb
namespace Lat
open Hb
noncomputable def Fc(f:?g):?g
 | 0=>0
 | n+1=>?lC
theorem K9{f g:?g}:∀{n:Nat},(∀k,k<n->f k<=g k)->?gG<=?mV
 | 0,_=>?bB
 | n+1,h=>Nat.add_le_add (K9 fun k hk=>h k O9m) (h n O9m)
theorem Tz[?Y]:∀n:Nat,(?yV f).natAbs<=Fc (fun k=>(f k).natAbs) n
 | 0=>?bB
 | n+1=>qa6 (qf1 (?yV f) (f n)) (?pK (Tz f n) _)
theorem Xt(f:?g)(c:Nat):∀n:Nat,Fc (fun k=>f k*c) n=?gG*c
 | 0=>by show 0=0*c;omega
 | n+1=>by show Fc _ n+f n*c=(?lC)*c;rw[Xt f c n,qf5]
theorem IX{f g:?g}{c:Nat}:∀{n:Nat},c<n->f c=f c->(∀k,k<n->k≠c->f k=g k)->g c=0->?gG=f c+?mV
 | 0,h,_,_,_=>O9m
 | n+1,h,e,hk,h0=>by
   show ?lC=f c+(?mV+g n)
   by_cases z:c=n
   . subst z;have:Fc f c=Fc g c:=qi1 (K9 fun k hk'=>qk6 (?rX)) (K9 fun k hk'=>qk6 (?rX).symm);omega
   . have:=IX (n:=n) O9m rfl (fun k hk'=>hk k O9m) h0;have:=hk n O9m O9m;omega
theorem AB{i:Nat}{R B:Mat}[?aX](P:Part R t 0 i){a m:Nat}(h:∀j,j<i->(Am (?lQ) i).natAbs<=m*?d9):∀j,j<i->(B j a).natAbs<=2 ^ j*m:=by
 intro j
 induction j using Nat.strongRecOn with
 | _ j ih =>
   intro hj;have pj:=P.pos j ?eT hj;have hs:=h j hj;rw[Ot (j:=j+1) ?e fun k h1 h2=>by rw[P.zero k _ ?eT h2 (P.inc j k ?eT ?e h2)];simp]at hs;have hs':(Am (?lQ) j+?uV).natAbs<=m*?d9:=hs
   have b:=BN (f:=?lQ) (m:=m) (h:=?d9) (j:=j) fun k hk=>by
    rw[qb1];obtain⟨r1,r2⟩:=P.red k j ?eT hk hj;exact qf0 (ih k hk O9m) O9m
   have c:(?uV).natAbs<=2 ^ j*m*?d9:=qa6 (W4 hs') (by rw[qw6];exact b);rw[qb1]at c;exact qq0 c O9m
section
variable{n w r E:Nat}{e:Int}{T P PB R RB:Mat}[?iP]
theorem oQ[?eY]{x:?i}{v:?i}(hx:∀c,c<w->v c=?s7)(hv:∀c,c<w->(v c).natAbs<=e.natAbs):?rE:=by
 have rn:=g.sq.rn;have rw':=g.sq.rw
 let a:Nat->?g:=fun c k=>if ?jW then ?g0*(T k k).natAbs else 0
 have step:∀c,c<r->Fc (a c) n=a c c+?o9:=fun c hc=>IX O9m rfl (fun k hk ne=>by
  show(if ?jW then _ else 0)=if ?f2 then _ else 0
  by_cases z:?jW
  . rw[?K,?o ⟨?jX,z.2⟩]
  . rw[?S,?v]) (by show(if c+1<=c/\c<r then _ else 0)=0;ext iS)
 have top:∀c,c<r->a c c<=e.natAbs+?o9:=fun c hc=>by
  have h1:=hx c O9m;have h2:=P6 (f:=?hY) (g:=fun k=>if k=c then ?eS else ?eN) (n:=n+2) (p:=c) (q:=n+1) O9m O9m O9m
  have e1:?s7=?eS+?oO:=by
   have:∀m,c<m->m<=n->Am (?hY) m=?eS+Am (fun k=>?eN) m:=fun m=>by
    induction m with
    | zero=>intro h;omega
    | succ m ih =>
      intro h hm;show Am _ m+?uR=?eS+(Am _ m+if c+1<=m/\m<r then ?uR else 0)
      by_cases z:c=m
      . subst z;have z1:Am (?hY) c=0:=Bi fun k hk=>by rw[g.low k c ?e ?e hk,qf3]
        have z2:Am (fun k=>?eN) c=0:=Bi fun k hk=>by ext iS
        rw[z1,z2,?v];omega
      . rw[ih ?e ?e];by_cases y:m<r
        . rw[?o ⟨?jX,y⟩];omega
        . rw[?v,?jC m c ?e ?e ?e,qf3];omega
   exact ?F n O9m ?l
  have e2:(?eS).natAbs<=e.natAbs+(?oO).natAbs:=by
   have:=hv c O9m;rw[h1,e1,Int.add_comm]at this;exact W4 ?F
  refine qa6 (qk6 ?_) (qa6 e2 (qu5 (qa6 ?v2 ?tP) _))
  . show(if c<=c/\c<r then _ else 0)=_;rw[?o ⟨?bB,hc⟩,qb1]
  . show(?eN).natAbs<=if ?f2 then ?g0*(T k k).natAbs else 0
    by_cases z:?f2
    . rw[?K,?K,qb1];obtain⟨r1,r2⟩:=g.red c k O9m z.2;exact ?nQ
    . rw[?S,?S];ext Z
 have all:∀d,d<=r->Fc (a (r-d)) n+e.natAbs<=?lM:=fun d=>by
  induction d with
  | zero =>
    intro _
    have:Fc (a (r-0)) n<=Fc (?lG) n:=K9 fun k _=>by
     show(if r-0<=k/\k<r then _ else 0)<=0;ext iS;ext Z
    have z:∀m,Fc (fun _=>0) m=0:=fun m=>by induction m with
     | zero=>rfl
     | succ m ih=>show Fc (?lG) m+0=0;omega
    rw[z]at this;rw[qw4];omega
  | succ d ih =>
    intro hd;have i1:=?bX;have s:=step (r-?aV) O9m;have t:=top (r-?aV) O9m;rw[show r-?aV+1=r-d by omega]at s t;have p2:2 ^ ?aV*e.natAbs=?lM+?lM:=?wC
    omega
 have fin:=all r ?l;rw[qh8]at fin
 have le1:?qP<=?pX:=K9 fun k hk=>by
  show _<=if 0<=k/\k<r then _ else 0
  rw[?o ⟨?O,hk⟩];have:=g.pos k hk;exact ?kO
 have le2:∀m,r<=m->?pX<=?oZ:=fun m=>by
  induction m with
  | zero=>intro h;rw[?yN r 0];ext Z
  | succ m ih =>
    intro h;by_cases z:r=m+1
    . rw[z];ext Z
    . have:=?bX;show _<=?oZ+a 0 m;omega
 have:=le2 n rn;omega
theorem OQ[?iM](he:1<=e.natAbs){x:?i}{v:?i}(rn:?bS)(hx:∀c,?bR->v c=?yV (fun k=>x k*?eE))(hv:∀j,?a8->j<n->(v ?aJ).natAbs<=?bN)(h0:?rE):Fc ?g7 n<=?rK:=by
 have one:∀j,?a8->j<n->(x j).natAbs<=1+?lF:=fun j h1 h2=>by
  ext iR;have e1:=hx ?aJ (?yU K.lt);rw[Ot (j:=j+1) ?e fun k h3 h4=>by rw[?e9 k _ ?e h4 (?fQ j k h1 ?e h4),qf3]]at e1;have e2:v ?aJ=?kG+?sM:=by rw[←?j1];exact e1
  have e3:(?kG).natAbs<=?lF*?bN:=by
   rw[←Xt];refine qa6 (Tz _ j) ?tP;obtain⟨r1,r2⟩:=?fU k j h1 hk h2;show(x k*_).natAbs<=_;rw[qb1];exact ?nQ
  have e4:=?yU hv
  have e5:(?sM).natAbs<=(1+?lF)*?bN:=by
   rw[qf5,qf2];refine qa6 (W4 (a:=?kG) (m:=?bN) ?_) (qu5 e3 _);exact qa6 (qk6 (?qW Int.natAbs e2.symm)) e4
  rw[qb1]at e5;exact qq0 e5 O9m
 have all:∀d,r+d<=n->?qK+1<=?kD:=fun d=>by
  induction d with
  | zero=>intro _;rw[qw4];show Fc _ r+1<=_;omega
  | succ d ih =>
    intro hd';have i1:=?bX;have o:=one ?gJ O9m O9m;show ?qK+(x ?gJ).natAbs+1<=_;rw[qg6];have:2 ^ d*2*?l1=?kD+?kD:=?bY
    omega
 have fin:=all ?f5 O9m;rw[show r+?f5=n by omega]at fin
 have p1:?m0*?l1=?h8+?m0:=by
  rw[Nat.mul_add,Nat.mul_one,←Nat.mul_assoc,←qd7]
  congr 3
  omega
 have p2:?m0<=?h8:=qa6 (?lB) (qh4 _ he);have p3:?rK=?h8+?h8:=?wC
 omega
theorem Qr.le{M:Mat}{W:Nat}(K:?rF){i j:Nat}[?aZ](h1:?a8)(h2:j<n):(M i ?aJ).natAbs<=?bN:=by
 ext iR;rcases qk3 i j with z | z | z
 . obtain⟨a,b⟩:=?fU i j h1 z h2;omega
 . rw[z,?j1];ext Z
 . rw[?e9 i _ ?e hi (?fQ j i h1 z hi)];exact ?O
theorem aA{π β:Nat}[?f0](he0:0<e)[?iT][?eY](g':?rL)[?iM](K':?p4)(s:?wA)(b1:?s n n β P) :
 ?s n n ?uT (?bC):=fun i a hi ha=>by
 obtain⟨x,hx⟩:=(?lY).1 i hi
 have h0:=oQ g (x:=x) (v:=R i) (fun c hc=>by rw[?q6];exact Al fun k _=>by rw[?cV]) fun c hc=>by
  obtain⟨a,b⟩:=g'.le c i hc hi;show(tr R c i).natAbs<=_;omega
 have h1:=OQ K (e:=e) O9m g.sq.rn hx (fun j h1 h2=>K'.le hi h1 h2) h0;show(R i ?z).natAbs<_;rw[hx ?z ?e];refine qb8 (qa6 ?v2 (qa6 (K9 (g:=fun k=>?g0*?bD) ?i0) ?_)) (m:=?iG*?C*?bD) ?_
 . show(x k*_).natAbs<=_;rw[qb1,beside_hi];exact qe3 _ (qd8 (b1 k a hk ha))
 . rw[Xt];exact qb7 _ (qa6 h1 (qe3 _ he))
 . rw[←qd7,←qd7];ext nC
theorem Xr{π β:Nat}(he0:0<e)[?iT][?wJ][?xQ](b2:?s n n β PB) :
 ?s n n ?uT RB:=fun i a hi ha=>by
 have ex:∀k,∃y:?i,k<n->∀c,?bR->?eE=?yV (fun i=>y i*R i c):=fun k=>by
  by_cases hk:k<n
  . obtain⟨y,hy⟩:=(?lY).2 k hk;exact⟨y,fun _=>hy⟩
  . exact⟨?lG,fun z=>?bF z hk⟩
 let y:?aK:=fun k=>?w6 (ex k)
 have hy:∀k,k<n->∀c,?bR->?eE=?yV (fun i=>?gI*R i c):=fun k=>?rM (ex k)
 have ybd:∀k,k<n->(?gI).natAbs<=?hQ*e.natAbs:=fun k hk=>by
  refine AB (R:=R) (B:=fun i _=>?gI) (t:=t) (a:=0) (i:=n) ⟨fun j l _=>?c4 j l,?r6,?q3,fun l j _=>?e2 l j⟩ (?mW) i hi;rw[←hy k hk ?b2 ?eM];have p:=?hR;by_cases z:j<r
  . rw[?bM ?s6];obtain⟨q1,q2⟩:=g.le k ?b2 hk ?s6;exact qa6 (show(T k ?b2).natAbs<=e.natAbs by omega) (?kO)
  . obtain⟨q1,q2⟩:=ker j O9m hj;rw[q2];rw[q1];exact qa6 (K.le hk O9m hj) (ql1 _ O9m)
 have rel:RB i a=?jB:=by
  have z:∀c,?bR->?pG=0:=fun c hc=>by
   have e1:?yV (fun l=>RB l a*?c5)=?kL:=s.pt a c
   have e2:?kL=?yV (fun l=>?e0*?c5):=by
    have:?kL=?yV (fun k=>Am (fun l=>?oX*?c5) n):=Al fun k hk=>by
     rw[hy k hk c hc,←Bg];exact Al fun l _=>?bY
    rw[this,C9];exact Al fun l _=>by rw[Hu]
   have e3:?pG=?yV (fun l=>RB l a*?c5+(-1)*(?e0*?c5)):=Al fun l _=>?bY
   rw[e3,C5,Bg,e1,e2];omega
  have d:=s.dual dl
  have q:?kI=RB i a-?jB:=by
   have:?kI=?yV (fun c=>?AA (R l ?dI*RB i c)):=Al fun c _=>by
    rw[←Hu];exact Al fun l _=>?i1
   rw[this,C9]
   rw[?E hi fun l hl ne=>by
    rw[Bg];have:=d l i hl hi;unfold pD at this;rw[this,?hE,qf3]]
   rw[Bg];have:=d i i hi hi;unfold pD at this;rw[this,?u,qn1]
  have q0:?kI=0:=Bi fun c hc=>by rw[z ?dI ?e,qk7]
  omega
 rw[rel]
 have m1:(?jB).natAbs<=n*(?hQ*?C*?bD):=Ou fun k hk=>by
  rw[qb1];exact qf0 (qa6 (ybd k hk) (qe3 _ he)) (qd8 (b2 k a hk ha))
 refine qb8 m1 (qb8 (qb7 _ (qd8 (qp4 (n:=n)))) ?_);rw[←qd7,←qd7,←qd7];ext nC
theorem Db.same{W n:Nat}{R:Mat}[?aX](st:Db W n R t){v:?i}(hv:In W n R v){j:Nat}(hj:j<n)(h0:∀k,k<j->?iC=0)(h1:v ?b2=?aF)(h2:∀k,j<k->k<n->0<=?iC/\?iC<R k ?dG):∀c,c<W->v c=R j c:=by
 obtain⟨x,hx⟩:=hv
 have hu:∀c,c<W->v c-R j c=?tY:=fun c hc=>by
  have e:?tY=?yV (fun k=>x k*?h2+(-1)*((?i9)*?h2)):=Al fun k _=>?bY
  rw[e,C5,Bg,Dc,?o hj,←hx c hc];omega
 have all:∀k,k<n->(x k-?i9)=0:=fun k=>by
  induction k using Nat.strongRecOn with
  | _ k ih =>
    intro hk;have p:=?gL k hk;have e:=hu ?dG (?dF k hk)
    rw[?E hk fun i hi ne=>by
     rcases qg7 i k with z | z
     . rw[ih i z hi,qk7]
     . rw[?dX i _ hi (?c4 k i ?e hi),qf3]]at e
    have small:(?iC-R j ?dG).natAbs<?lJ:=by
     rcases qk3 k j with z | z | z
     . rw[h0 k z,?dX j _ hj (?c4 k j z hj)];omega
     . subst z;rw[h1];omega
     . have a:=h2 k z hk;have b:=?e2 j k z hk;omega
    rw[e,qb1]at small;refine qg0 fun ne=>?_;have:1*?lJ<=(x k-?i9).natAbs*?lJ:=?sH;omega
 intro c hc;have:=hu c hc;rw[Bi fun k hk=>by rw[all k hk,qk7]]at this;omega
theorem KJ[?wJ]{j:Nat}(h1:?a8)(h2:j<n):∀c,?bR->R j c=?zH j c:=fun c hc=>by
 refine(st.same ((?lY).2 j h2) h2 (?i0) ?_ (fun k hk hn=>?_) c hc).symm
 . by_cases z:k<r
   . rw[?bM ?tU];exact ?jC j _ h1 h2 ?tU
   . rw[(ker k ?e ?e).1];exact ?e9 j _ h1 h2 (?fQ k j O9m hk h2)
 . obtain⟨a,b⟩:=?yU ker;rw[b,a];exact ?j1
 . obtain⟨a,b⟩:=ker k O9m hn;rw[b,a];exact ?fU j k O9m hk hn
universe e9
universe Lat
namespace Hb
open Lat
section
variable{n w b0 D π b β D2 π2 b2 β2 C1 C2:Nat}{A:Mat}
universe e9
noncomputable def Z8(n:Nat)(f:?u6):Bool:=(?jF n).all f
theorem K4{n:Nat}{f:?u6}(h:Z8 n f=true):∀i,i<n->f i=true:=fun i hi=>qe1.mp h i (qe5.mpr hi)
universe Hb
namespace Lat
open Hb
theorem NS:∀(k:Nat) (s:?g),(∀x y,x<=k->y<=k->s x=s y->x=y)->∃x,x<=k/\k<=s x
 | 0,s,_=>⟨0,?bB,?O⟩
 | k+1,s,h=>by
   apply Classical.byContradiction;intro no
   have lt:∀x,x<=k+1->s x<=k:=fun x hx=>by
    rcases qg7 k (s x) with z | z
    . exact ?bF ⟨x,hx,z⟩ no
    . exact z
   obtain⟨x,hx,hk⟩:=NS k (fun x=>if s x=k then s ?W else s x) fun x y hx hy e=>by
    by_cases h1:s x=k
    . by_cases h2:s y=k
      . exact h x y O9m O9m (h1.trans h2.symm)
      . rw[?bI,?c1]at e;have:=h ?W y ?l O9m e;omega
    . by_cases h2:s y=k
      . rw[?b8,?cK]at e;have:=h x ?W O9m ?l e;omega
      . rw[?b8,?c1]at e;exact h x y O9m O9m e
   have l1:=lt x O9m;have l2:=lt ?W ?l;by_cases h1:s x=k
   . rw[?bI]at hk;have:=h x ?W O9m ?l O9m;omega
   . rw[?b8]at hk;omega
theorem QX{n:Nat}{P PB P':Mat}(h:∀a b,a<n->b<n->pT n PB P a b=?j3)(x:Nat):∀c,c<n->P' x c=?vD:=fun c hc=>by
 have e:?vD=?yV (fun a=>?mS*pT n PB P a c):=by
  rw[Al fun u _=>(Hu _ _ _).symm,C9];refine ?z5 ?_;show _=?mS*?yV (fun k=>?gX*P k c);rw[←Bg];exact Al fun k _=>by rw[qf6]
 rw[e,?E hc fun a ha ne=>by rw[h a c ha hc,?hE,qf3],h c c hc hc,?u,qn1]
universe Lat
namespace Hb
open PySem L2
noncomputable def Drawn(h w b0:Nat):Prop:=(h<=7/\w<=8/\b0=4)\/(h<=4/\w<=5/\b0=22)\/(h<=2/\w<=3/\b0=69)
structure Q8[?aD](H:Hp)[?nD](n w k:Nat)[?Y][?d5]:Prop where
 tup:Dl K H tp ?qE
 num:SqL K H nm ?tS
 left:?zU H
 lback:?yT H
 right:?yS H
 rback:?zV H
theorem c9.r[?wT](x:?u8):?vE:=⟨x.tup,.of x.num,x.left,x.lback,x.right,x.rback⟩
theorem Q8.same[?wT](x:?z7 H)[?iY]:?vE:=⟨s.seqT x.tup,s.seq x.num,?cE s x.left,?cE s x.lback,?cE s x.right,?cE s x.rback⟩
section
variable[?aD]
universe e9
structure Sta where
 T:?aK
 f:?aK
 l:?aK
 lb:?aK
 r:?aK
 rb:?aK
noncomputable def dot(x y:?i)(n:Nat):Int:=?yV (fun k=>x k*y k)
noncomputable def dl(a b:Nat):Int:=if b=a then 1 else 0
structure Good(h w:Nat)(S:Sta):Prop where
 l1:∀r s,r<h->s<h->dot (S.l r) (S.lb s) h=dl r s
 l2:∀a b,a<h->b<h->Am (fun k=>S.lb k a*S.l k b) h=dl a b
 r1:∀r s,r<w->s<w->dot (S.r r) (S.rb s) w=dl r s
 r2:∀a b,a<w->b<w->Am (fun k=>S.rb k a*S.r k b) w=dl a b
 now:∀i j,i<h->j<w->S.f i j=dot (fun b=>dot (S.l i) (fun a=>S.T a b) h) (S.r j) w
noncomputable def unit:?aK:=fun i j=>if j=i then 1 else 0
universe Hb
namespace Lat
open Hb
theorem Xs(g:?i):∀n,?vY=g 0+?tJ
 | 0=>by show Am g 0+g 0=_;show 0+g 0=g 0+0;omega
 | n+1=>by
   show ?vY+g ?q=g 0+(?tJ+g ?q)
   rw[Xs g n,Int.add_assoc]
noncomputable def Wu(A:Mat)(j:Nat):Mat:=fun r c=>A ?b1 (if c<j then c else c+1)
theorem CM:∀(n:Nat) (A:Mat),det ?q A=?nH
 | 0,A=>rfl
 | n+1,A=>by
   have e:∀i j,i<n+1->j<n+1->?qD=?uG:=fun i j _ _=>Da fun r c _ _=>by
    show A (if r+1<i+1 then r+1 else r+1+1) ((if c<j then c else c+1)+1)=A ((if r<i then r else r+1)+1) (if c+1<j+1 then c+1 else c+1+1)
    congr 1
    . split<;>split<;>omega
    . split<;>split<;>omega
   show Am (fun i=>Sj i*A i 0*?yZ F6 i) (n+1+1)=_;rw[Xs,Xs (fun j=>?oB*?yZ Wu j)];have e0:?yZ F6 0=?yZ Wu 0:=rfl;rw[e0]
   congr 1
   have l:Am (fun i=>?oM*?yZ F6 ?p) ?q=Am (fun i=>Am (fun j=>?oM*(Sj j*A 0 ?cI*?qD)) ?q) ?q:=Al fun i _=>by
    rw[CM n,Bg];rfl
   have r:Am (fun j=>?wH*?yZ Wu ?cI) ?q=Am (fun j=>Am (fun i=>?wH*(Sj i*A ?p 0*?uG)) ?q) ?q:=Al fun j _=>by
    rw[Bg];rfl
   rw[l,r,C9];refine Al fun j hj=>Al ?iI;rw[e i j hi hj,X6,X6]
   grind
theorem Tr:∀(n:Nat) (A:Mat),det n (fun r c=>A c r)=det n A
 | 0,_=>rfl
 | n+1,A=>by
   rw[CM n A];refine Al ?iI;rw[←Tr n (Wu A i)];rfl
noncomputable def UI[?a6](A:Mat)(D:Nat):Prop:=∀(k:Nat) (r c:?g),(∀x,x<k->r x<n)->(∀y,y<k->c y<w)->(det k fun x y=>A ?cW (c y)).natAbs<=D
theorem HE(k:Nat)(r:?g):(?pP)\/∀x y,x<k->y<k->r x=r y->x=y:=by
 by_cases h:?pP
 . exact ?iH
 . exact ?J fun x y hx hy e=>Classical.byContradiction fun z=>h ⟨x,y,hx,hy,z,e⟩
theorem pN{k:Nat}(M:Mat)(s:?g){y0:Nat}(h0:y0<k):?A8 ?oR ?pW:=by
 by_cases z:y0=0
 . subst z
   congr 1
   exact Da fun x y _ _=>by
    by_cases q:y=0
    . rw[?gY,q]
    . rw[?dB,?dB]
 rw[←Tr k ?pW,←Tr k ?oR];have e:=FD (A:=?dN) (?y0 0 k) h0 (fun q=>z q.symm) (?hF) (?mJ)
 have e1:B4 (B4 ?eH 0 ?hF) y0 (?mJ)=?dN:=by
  rw[show B4 ?eH 0 (?hF)=?dN from G6 ?eH 0];exact G6 ?eH y0
 have e2:B4 (B4 ?eH 0 ?mJ) y0 (?hF)=?qQ:=by
  funext y x
  unfold B4;by_cases q:y=y0
  . rw[?gY,?v,?gY]
  . rw[?dB];by_cases q2:y=0
    . rw[?o q2,?o q2]
    . rw[?j q2,?j q2,?dB]
 rw[e1,e2]at e;show ?A8 ?qQ ?dN;rw[e,qc4]
theorem Wh[?xM]:∀(k:Nat) (r s:?g),(∀x,x<k->r x<n)->(∀y,y<k->s y<w+n)->(det k ?qV).natAbs<=D
 | 0,r,s,hr,hs=>h 0 r s hr fun y hy=>O9m
 | k+1,r,s,hr,hs=>by
   rcases HE ?W r with⟨x,y,hx,hy,ne,e⟩ | inj
   . ext xA
   by_cases z:∃y,y<k+1/\w<=s y
   . obtain⟨y0,hy,q⟩:=z;rw[←pN (?yR y) s hy]
     have first:∀s':?g,w<=s' 0->(∀y,y<k+1->s' y<w+n)->(det ?W ?rP).natAbs<=D:=fun s' h0 hs'=>by
      show(Am (fun i=>Sj i*?h w A one (r i) (s' 0)*?sC) ?W).natAbs<=D;have ih:∀i,i<k+1->(?sC).natAbs<=D:=fun i hi=>Wh h k (fun x=>r (if x<i then x else x+1)) (fun y=>s' (y+1)) (fun x hx=>hr _ (by split<;>omega)) fun y hy=>hs' _ O9m
      have cell:∀x,?h w A one ?cW (s' 0)=if r x=s' 0-w then 1 else 0:=fun x=>by
       unfold beside one;ext iS
      by_cases z:∃i,i<k+1/\r i=s' 0-w
      . obtain⟨i,hi,e⟩:=z
        rw[?E hi fun x hx ne=>by
         rw[cell,?j fun q=>ne (inj x i hx hi (q.trans e.symm))];simp]
        rw[qb1,qb1,W7,qf2,cell,?i2];show 1*_<=D;rw[qf2];exact ih i hi
      . rw[Bi fun x hx=>by
         rw[cell,?j fun q=>z ⟨x,hx,q⟩];simp]
        exact ?O
     exact first (fun y=>?xX 0) q fun y hy'=>hs _ (by split;omega;split<;>omega)
   . have e:det ?W (?qV)=det ?W fun x y=>A ?cW (s y):=Da fun x y _ hy=>?bM (qi5 fun q=>z ⟨y,hy,q⟩);rw[e];exact h ?W r s hr fun y hy=>qi5 fun q=>z ⟨y,hy,q⟩
theorem UI.dets[?xM]:?rV:=fun i hi s hs=>Wh h i (fun x=>x) s (fun x hx=>O9m) hs
theorem few{n k:Nat}{f:?g}(h:∀x,x<k->f x<n)(inj:∀x y,x<k->y<k->f x=f y->x=y):k<=n:=by
 rcases qg7 n k with z | z
 . obtain⟨x,h1,h2⟩:=NS n f fun x y hx hy e=>inj x y O9m O9m e;have:=h x O9m;omega
 . exact z
theorem gX{n w B D:Nat}{A:Mat}(hA:?zL ?sK B)(hD:∀i,i<=n->i<=w->cJ i*B ^ i<=D):?oH:=fun k r c hr hc=>by
 rcases HE k r with⟨x,y,hx,hy,ne,e⟩ | h1
 . ext xA
 . rcases HE k c with⟨x,y,hx,hy,ne,e⟩ | h2
   . rw[←Tr,Fq (A:=fun r' c'=>A (r c') (c r')) hx hy ne ?rJ];exact ?O
   . exact qa6 (PM fun x y hx hy=>hA _ _ (hr x hx) (hc y hy)) (hD k (few hr h1) (few hc h2))
structure T6(k w:Nat)(Q:Mat)(p:?g):Prop where
 zero:∀j c,?bZ->j<w->c<p j->Q j c=0
 inc:∀i j,k<=i->i<j->j<w->p i<p j
 lt:∀j,?bZ->j<w->p j<w
 pos:∀j,?bZ->j<w->0<Q j ?c3
 red:∀i j,k<=i->i<j->j<w->0<=Q i ?c3/\Q i ?c3<Q j ?c3
theorem Qr.loops{n w r:Nat}[?d4]{T Q:Mat}(h:Qr w ?aM n r kt hd (?h n T Q)):T6 r w Q fun j=>kt j-n:=by
 have at':∀i j,?a8->j<w->Q i (kt j-n)=?h n T Q i ?aJ:=fun i j h1 h2=>by
  have:=?k6;rw[←?lT n T Q i (kt j-n),show n+(kt j-n)=kt j by omega]
 refine⟨?mN,?pM,?m4,?m4,?pM⟩
 . rw[←?lT n T Q j c];exact ?dT j _ h1 h2 O9m
 . have:=?hB i j h1 h2 h3;have:=h.ge i h1 O9m;omega
 . have:=?yU h.lt;have:=?k6;omega
 . rw[at' j j h1 h2,?t1];exact ?v1
 . rw[at' i j ?e h3,at' j j ?e h3,h.head j ?e h3];exact ?hU i j O9m h2 h3
theorem T6.congr{k w:Nat}{Q Q':Mat}{p:?g}(h:?jP)(e:∀j,?bZ->Q' j=Q j):T6 k w Q' p :=
 ⟨fun j c h1 h2 h3=>by rw[e j h1];exact ?oU,?hB,h.lt,fun j h1 h2=>by rw[e j h1];exact ?v1,fun i j h1 h2 h3=>by rw[e i h1,e j ?e];exact ?hU i j h1 h2 h3⟩
universe Lat
namespace Hb
open Lat
structure JW(n w b0 D π b β D2 π2 b2 β2 C1 C2 F:Nat):Prop where
 dπ:?h5
 nb:?sN
 wb:w*D<=?D
 b0π:?fB
 πb:?fF
 bβ:b<β
 nβ:?lP
 st:?oA
 π9:?eP
 d2:∀i,i<=n->i<=w->?k0<=D2
 dπ2:D2<=?eV
 wb2:w*D2<=?lZ
 bπ2:b<=π2
 πb2:π2<=b2
 bβ2:b2<β2
 wβ2:w+b<β2
 st2:∀i,i<w->?s2
 π92:?q5
 c1:∀r,?bS->r<=w->?A2 π n<=C1
 c2:∀r,?bS->r<=w->?A2 π2 w<=C2
 f1:?A4 F
 f2:?A6 F
 fb:F<=uC
section
variable{n w b0 D π b β D2 π2 b2 β2 C1 C2 F:Nat}{A:Mat}
noncomputable def UF[?xH](m:Nat)(M:Mat)(l r:?x):Prop:=∃(k:Nat) (e:Int) (kl kr:?g) (hl hr:?i),Sf n w k D π m e A M l.1 l.2 r.1 r.2 kl kr hl hr/\m<=?y/\e<=D/\(∀j,?bZ->j<n->hl j<=?C)/\(∀j,?bZ->j<w->hr j<=?eV) ∧
 ?s n n (?dH) l.1/\?s n n (?dH) l.2/\?s w w (?c9) r.1/\?s w w (?c9) r.2/\?hO/\?mI/\?lA
theorem YQ[?wK]:Sg n w A ?nZ ?nZ (fun M l r=>∃m,?qI):=by
 have o0:∀b i j,?tD<=?D:=fun b i j=>qa6 (xA i j) qj9;have hM:=BC (W:=n) hA fun i c _ _=>o0 b0 i c;refine⟨JF n w ?hI,V9 hM ?a9 ?cQ p.nb p.b0π (qa6 p.b0π p.πb) p.bβ p.nβ p.st ?f1 (Tm n w A),?vW,JF.lt,fun t1 s1 h1=>?_⟩;have hR:∀i c,i<w->c<n->((?zR i) i c:Int).natAbs<=?D:=fun i c hi hc=>qa6 (h1.rowD ?a9 ?l (fun c h=>h) hc (show i<w+n by omega)) p.nb;have hM2:=BC (W:=w) hR fun i c _ _=>o0 b i c;have JP:Oo w (fun c=>c<n+w) (?h n (tr s1.1) one) D2:=(gX hR fun i h1 h2=>p.d2 i h2 h1).dets;refine⟨JF w n (?h n (?zR i) one),V9 hM2 JP p.dπ2 p.wb2 p.bπ2 (qa6 p.bπ2 p.πb2) p.bβ2 p.wβ2 p.st2 p.π92 (Tm w n _),?vW,JF.lt,fun t2 s2 h2=>?_⟩;have bb1:=Sc hM ?a9 (fun k a=>rfl) h1 ?l p.nb (qa6 p.b0π p.πb) p.bβ p.nβ;have bb2:=Sc hM2 JP (fun k a=>rfl) h2 ?l p.wb2 (qa6 p.bπ2 p.πb2) p.bβ2 p.wβ2;obtain⟨k,e,kn,kw,he,wk,hl,hr⟩:=fY (L:=π) ?a9 JP h1 h2
 have up:∀{x:Int}{a q:Nat},x<=a->a<=2 ^ q->x<=2 ^ q:=fun {x a q} h1 h2=>by
  exact qt8 h1 (by exact_mod_cast h2)
 have km:k*?b9<=?y:=?sH;exact⟨k*?b9,k,e,_,_,_,_,wk,km,he,fun j _ h=>up (hl j h) ?cQ,fun j _ h=>up (hr j h) p.dπ2,Lk (Wg bb1.1) ?dK,Lk bb1.2.1 ?dK,Lk (Wg bb2.1) ?dK,Lk bb2.2.1 ?dK,(Om.one n).go h1.good.pt,(Om.one w).go h2.good.pt,fun j c _ hj hc=>qa6 (h2.rowD JP ?l (fun c h=>h) hj (show n+c<n+w by omega)) p.wb2⟩
theorem XQ(p:?rR){m:Nat}{M:Mat}{l r:?x}(h:?qI)(ns:¬?s1 n w M):?zK (fun M' l' r'=>∃m',m'<m/\UF n w D π β π2 β2 b2 A m' M' l' r'):=by
 obtain⟨k,e,kl,kr,hl,hr,wk,hm,he,ηl,ηr,q1,q2,q3,q4,v1,v2,sp⟩:=h;obtain⟨lg,le⟩:=xP he ?cQ ?aP;have rn:=wk.going.sq.rn;have rw':=wk.going.sq.rw;have c1:=p.c1 k rn rw';have c2:=p.c2 k rn rw';ext wV
 have sC:∀C,(?y-m)*C+C<=(?y+1)*C:=fun C=>by
  rw[qf5,qf2];exact ?pK (?uI) _
 ext x8;have b1:?dH+Mf π b π k n<=big:=O9m
 have qU:?c9+Mf π b π2 k w<=big:=O9m
 have β1:?a0<=?dH:=by have:=p.πb;have:=p.bβ;omega
 have β1':π2+1<=?c9:=by have:=p.πb2;have:=p.bβ2;omega
 have tb:∀{n' w':Nat}{T:Mat}{x:Nat},?a0<=x->Fb n' w' k D e T->∀i c,i<n'->c<w'->?dS<2 ^ x:=fun {n' w' T x} hx g i c hi hc=>by
  obtain⟨g1,g2⟩:=g.le i c hi hc;have:?dS<=?C:=O9m
  exact ?tL
 have bl:=Wf (tb β1 ?eF) q1;refine⟨JL n w k (?h w M l.1) l.2 kl hl π b π (?dH),V5 ?eF ?aP ?hM wk.dl ηl β1 b1 ?cQ le p.nb p.πb ?f1 ?f1,fun t=>?t ⟨?O,?sP,wk.kl.bits ηl bl q2 β1⟩,JL.lt,fun t1 u1 j1=>?_⟩;obtain⟨⟨G1,K1⟩,_,_⟩:=JL.done rn j1 c1;obtain⟨d1,d2,d3,d4⟩:=Nw ?aP ?eF ?hM K1 wk.told;have z1:=aA (G:=G1) ?aP le ?eF d2 ?hM d3 ?pI q1;have z2:=Xr ?aP le ?eF ?hM ?pI K1.st.st (fun j hj=>K1.tab j hj O9m) (?yW K1.ker) wk.dl q2;have ker:Qr w ?aM n k kr hr (?yF i):=?xR wk.kr.table d2.sq.row0;have dr:Fe w n (?yF i) r.2:=Gy wk.dr;have hπ2:?a0<=?c9:=by have:=p.πb;have:=p.bπ2;omega
 have br:=Wf (tb hπ2 d2) q3;refine⟨JL w n k (?yF i) r.2 kr hr π b π2 (?c9),V5 d2 ?aP ker dr ηr β1' qU ?cQ le p.wb p.πb ?f1 p.π92,fun t=>?t ⟨?O,?sP,ker.bits ηr br q4 β1'⟩,JL.lt,fun t2 u2 j2=>?_⟩;obtain⟨⟨G2,K2⟩,_,_⟩:=JL.done rw' j2 c2;obtain⟨_,nx⟩:=wk.next lg K1 K2;obtain⟨m0,wk'⟩:=nx ns;have k2:∀x c,x<w->c<n->tr u1.1 x c=Pz w n ?fR (r.1 x) ((?nM) c):=fun x c hx hc=>T8 (T:=u1.1) (P:=?nM) d4 x c hx hc;obtain⟨h1,h2,h3,h4⟩:=Nw ?aP d2 ker K2 k2;have y1:=aA (G:=G2) ?aP le d2 h2 ker h3 ?l9 q3;have y2:=Xr ?aP le d2 ker ?l9 ?p9 (fun j hj=>K2.tab j hj O9m) (?yW K2.ker) dr q4
 have en:∀C,(?u3)*C=(?y-m)*C+C:=fun C=>by
  rw[show ?u3=?y-m+1 by omega,qf5,qf2]
 refine⟨m-1,O9m,k,e,kl,kr,hl,hr,wk',O9m,he,ηl,ηr,?_,?_,?_,?_,v1.go K1.st.good.pt,v2.go K2.st.good.pt,?mN⟩
 . rw[en,←qr9];exact z1
 . rw[en,←qr9];exact z2
 . rw[en,←qr9];exact y1
 . rw[en,←qr9];exact y2
 . show(u2.1 j (n+c)).natAbs<=_;rw[KJ d2 ker ?l9 ?p9 (fun j hj=>K2.tab j hj ?e) (?yW K2.ker) h1 h2 (n+c) ?e,beside_hi];exact sp j c h1 h2 h3
noncomputable def YF[?xH](k d:Nat)[?Y](l r:?x):Prop:=?sQ/\d<=?m3/\BB n n ?e3 0 (β+?fJ*?b3+d*(2*π+4)) l/\BB w w ?e3 0 (β2+?fJ*?cS+d*?b9) r/\?hO/\?mI/\(?tH)/\?lA
structure ZF(n w D F b2:Nat)(A:Mat)(k:Nat)[?Y](l r:?x):Prop where
 dg:?sQ
 il:?hO
 ir:?mI
 bl:?s n n F l.1/\?s n n F l.2
 br:?s w w F r.1/\?s w w F r.2
 lo:?tH
 sp:?lA
theorem Af4[?wK]:d6 n w A (ZF n w D F b2 A):=by
 refine⟨UF n w D π β π2 β2 b2 A,YF n w D π β π2 β2 b2 A,YQ p hA ?a9,fun m M l r h ns=>XQ p h ns,?_,?_,?_⟩
 . rintro m M l r ⟨k,e,kl,kr,hl,hr,wk,hm,he,ηl,ηr,q1,q2,q3,q4,v1,v2,sp⟩ hS;have dg:=wk.diag hS;have sC:∀C,(?y-m)*C<=?fJ*C:=fun C=>?uI;ext x8;refine⟨k,?jU,OD ?h3 _ (?qB) fun x h1 h2=>dg.zero x h1 O9m O9m,dg.mn,dg.mw,dg,?O,⟨Lk q1 O9m,Lk q2 O9m,?r1⟩,⟨Lk q3 O9m,Lk q4 O9m,?r1⟩,v1,v2,⟨_,wk.kr.loops⟩,sp⟩
 . rintro k d i j f l r ⟨dg,hd,bl,br,v1,v2,⟨pl,lo⟩,sp⟩ hdk hij hj;have mn:=dg.mn;have mw:=dg.mw
   have lf:∀x,x<k->(f x).natAbs<=?C:=fun x hx=>by
    have h1:=dg.le hx;have h2:=?h3 x hx;exact qa6 O9m ?cQ
   have kk:?m3<=5*?n+?n*?n:=by
    have h:k<=?n:=O9m
    have:=qf0 h h;omega
   ext wV
   have dm:∀X,d*X+X<=?y5 X:=fun X=>by
    have:=qb7 X (show d+1<=5*?n+?n*?n+1 by omega);rw[qf5,qf2]at this;exact this
   have d1:=dm (2*π+4);have d2:=dm ?b9;ext wU;ext x7;have b1:BB n n ?e3 0 (β+?y*?b3+d*(2*π+4)+(1+1)) (addS i j 1 l):=bl.add O9m O9m (k:=1) (c:=1) ?aO;have lt1:∀{x:Nat},x<=?C->x<2 ^ (?a0):=fun h=>?nT;refine⟨⟨⟨?tX,?A0 ?eA⟩,⟨by have:=?h3 j hj;omega,?A0 ?eC⟩,⟨?aR bl O9m,?aR b1 O9m⟩,?aR br O9m⟩,fun pC=>⟨dg,O9m,bl.mono (by rw[qf5];omega),br.mono (by rw[qf5];omega),v1,v2,⟨pl,lo⟩,sp⟩,fun g a b' sh=>⟨?_,O9m,?_,?_,?_,?_,⟨pl,lo.congr ?w9⟩,fun x c h1 h2 h3=>?_⟩⟩
   . have:=dg.share hij hj sh;unfold zJ RG wQ addS blendS;simp only[qm9];exact this
   . have lb:(?rQ).natAbs<2 ^ (2*π+1):=by
      refine qb8 (qh1 _ _) ?_;rw[qb1];refine qb8 (qf0 (qa6 sh.lb ?eA) ?eC) ?_;rw[←qd7];ext nC
     have qU:=b1.add (p:=j) (q:=i) O9m O9m (k:=-(?rQ)) (c:=2*π+1) (by rw[qc4];exact lb);refine qU.mono ?_;rw[qf5,qf2];omega
   . have:=br.blend (p:=i) (q:=j) O9m O9m O9m (x:=a) (y:=b') (z:=-(f j / g)) (u:=?aT) (c:=?a0) (lt1 (qa6 sh.la ?eC)) (lt1 (qa6 sh.lb ?eA)) (lt1 (by rw[qc4];exact qa6 (qh1 _ _) ?eC)) (lt1 (qa6 (qh1 _ _) ?eA));refine this.mono ?_;rw[qf5,qf2];omega
   . intro x y hx hy;rw[←v1 x y hx hy];exact(?A5 j i).trans (?A5 i j)
   . intro x y hx hy;rw[←v2 x y hx hy];exact eE _ _ (?y0 i w) (?y0 j w) O9m (?nP (π:=π) (?tX) ?eA ?eC).one x y
   . exact ?qZ
   . have e:(?z0 b').1 x=r.1 x:=?qZ;rw[e];exact sp x c h1 h2 h3
 . rintro k d f l r ⟨dg,hd,bl,br,v1,v2,lo,sp⟩;have h:k<=?n:=?qB
   have kk:=qf0 h h;have f1:=p.f1;have f2:=p.f2;have dm:∀X,d*X<=?y5 X:=fun X=>qb7 X O9m;ext wU;have d1:=dm (2*π+4);have d2:=dm ?b9;ext x7;exact⟨dg,v1,v2,⟨(?yA bl.mono).1,(?yA bl.mono).2.1⟩,⟨(?yA br.mono).1,(?yA br.mono).2.1⟩,lo,sp⟩
universe e9
universe Hb
namespace Lat
open Hb
noncomputable def mulV(w:Nat)(A:Mat)(x:?i):?i:=fun i=>Am (fun j=>A i j*x j) w
theorem FN[?a6](A:Mat)(p x:?i):Pz n w A p x=?yV (fun a=>p a*?N w A x a):=rfl
theorem pY{w:Nat}{Q QB:Mat}(h:∀a b,a<w->b<w->pT w QB Q a b=?j3)(x:?i):∀c,c<w->x c=Am (fun y=>?yC x y*Q y c) w:=QX (P':=fun _=>x) h 0
noncomputable def numAt[?Y](k i:Nat):Int:=if i<k then f i else 0
section
variable{n w k E:Nat}[?iO]
universe e9
universe Lat
namespace Hb
open PySem L2
section
variable[?aD]
universe e9
section
variable[?aD]
universe e9
universe Hb
namespace Lat
open Hb
section
variable{n w k E:Nat}[?iO]
theorem qV{u:?i}(hl:?oC)(hu:∀x,x<n->?rT=0):∀a,a<n->u a=0:=fun b hb=>by
 have e:?w7=u b:=by
  have:?w7=?yV (fun x=>Am (fun a=>u a*(PB x b*P x a)) n):=Al fun x _=>by
   rw[←Bg];exact ?z5 ?bY
  rw[this,C9]
  rw[?E hb fun a ha ne=>by
   rw[Bg];have:=hl b a hb ha;unfold pT at this;rw[this,?j fun q=>ne q.symm,qf3]]
  rw[Bg];have:=hl b b hb hb;unfold pT at this;rw[this,?u,qn1]
 rw[←e];exact ?zP hu
theorem Ik.spare(h:?oW)(hl:?oC){y:Nat}(h1:k<=y)(h2:y<w):∀x,x<n->?N w A (Q y) x=0 :=
 qV hl fun x hx=>by
  have:=?iE x y hx h2;rw[FN]at this;rw[this];by_cases z:x=y
  . rw[?K,z];exact ?dT y h1 O9m h2
  . rw[?S]
theorem Ik.madeS(h:?oW)(hr:?u1){v:?i}(hv:∀x,x<n->?N w A v x=0):∀c,c<w->v c=Am (fun i=>?lI*?fN) ?dA:=fun c hc=>by
 have mw:=h.mw;have mn:=h.mn
 have z:∀y,y<k->?mU=0:=fun y hy=>by
  have e1:?oJ=0:=by
   rw[FN];exact ?zP hv
  have e2:?oJ=f y*?mU:=by
   rw[Vm (p':=P y) (q':=?AB (fun u=>?yC v u*Q u c) w) (?e5) (fun b hb=>pY hr v b hb),My,DB];rw[?E (?y0 y w) fun u hu ne=>by rw[←My,?iE y u ?e hu,?j fun q=>ne q.symm,qf3]];rw[←My,?iE y y ?e ?e,?u,qf4]
  rw[e2]at e1;have p:=?bE y hy;rcases qp6.mp e1 with q | q
  . omega
  . exact q
 rw[pY hr v c hc]
 have sp:∀d,k+d<=w->?q1=Am (fun i=>?lI*?fN) d:=fun d=>by
  induction d with
  | zero=>intro _;exact Bi fun y hy=>by rw[z y hy,qk7]
  | succ d ih =>
    intro hd;have i1:=?bX;show ?q1+?yC v (k+d)*Q (k+d) c=_;rw[i1];rfl
 have:=sp ?dA O9m;rw[show k+?dA=w by omega]at this;exact this
universe e9
section
variable{n w m i:Nat}{d v:?i}{A:Mat}
universe e9
universe Lat
namespace Hb
open Lat
noncomputable def nZ(n w b0 π b β π2 b2 β2 C1 C2 F:Nat):Bool :=
 (?L (n*?C<=?D/\w*?C<=?D/\?fB/\?fF/\b<β/\?lP)&&(Z8 n (fun i=>?L (?l4))&&(?L (?eP) &&
 (Z8 (?n+1) (fun i=>?L (?k0<=?eV))&&(?L (w*?eV<=?lZ/\b<=π2/\π2<=b2/\b2<β2/\w+b<β2)&&(Z8 w (fun i=>?L (?s2))&&(?L (?q5) &&
 (Z8 (?n+1) (fun r=>?L (?A2 π n<=C1/\?A2 π2 w<=C2)) &&
 ?L (?A4 F/\?A6 F/\F<=uC)))))))))
theorem NY{n w b0 π b β π2 b2 β2 C1 C2 F:Nat}(h:nZ n w b0 π b β π2 b2 β2 C1 C2 F=true):?z8 (?C) (?eV):=by
 unfold nZ at h;simp only[qc2,qo0]at h;obtain⟨⟨h2,h3,h4,h5,h6,h7⟩,h8,h9,k1,⟨k2,k3,k4,k5,k6⟩,k7,k8,k9,m1,m2,m3⟩:=h
 exact⟨?bB,h2,h3,h4,h5,h6,h7,fun i hi=>qc8 (K4 h8 i hi),h9,fun i h1 h2=>qc8 (K4 k1 i O9m),?bB,k2,k3,k4,k5,k6,fun i hi=>qc8 (K4 k7 i hi),k8,
  fun r hr hw=>(qc8 (K4 k9 r O9m):_/\_).1,fun r hr hw=>(qc8 (K4 k9 r O9m):_/\_).2,m1,m2,m3⟩
universe Hb
namespace Lat
open Hb
noncomputable def kY:(?g)->?g
 | _,0=>1
 | B,n+1=>B 0*?dE
theorem Wc:∀{n:Nat}{A:Mat}{B:?g},(∀r c,r<n->c<n->(A r c).natAbs<=B r)->(det n A).natAbs<=cJ n*?jG
 | 0,A,B,_=>by show(1:Int).natAbs<=1*1;decide
 | n+1,A,B,h=>by
   rw[CM]
   have e:(?nH).natAbs<=?q*(B 0*(cJ n*?dE)):=Ou fun j hj=>by
    have d:=Wc (n:=n) (A:=Wu A j) (B:=?lH) fun r c hr hc=>by
     unfold Wu;exact h ?b1 _ O9m (by split<;>omega)
    rw[qb1,qb1]
    have s:(Sj j).natAbs=1:=by
     unfold Sj;split<;>rfl
    rw[s,qf2];exact qf0 (h 0 j O9m hj) d
   refine qa6 e (qk6 ?_);show ?q*(B 0*(cJ n*?dE))=(?q*cJ n)*(B 0*?dE)
   grind
theorem RQ(B:?g):∀n,kY (fun r=>2*B r) n=?gM*?jG:=fun n=>by
 induction n generalizing B with
 | zero=>rfl
 | succ n ih =>
   show 2*B 0*kY (fun r=>2*B ?b1) n=?iG*(B 0*?dE);rw[ih ?lH,qg6]
   grind
theorem RS{B:?g}:∀{n:Nat},(∀r,r<n->0<B r)->0<?jG:=fun {n} h=>by
 induction n generalizing B with
 | zero=>exact Nat.one_pos
 | succ n ih=>exact Nat.mul_pos (h 0 O9m) (ih fun r hr=>h ?b1 O9m)
theorem nO[?d6]:∀{n:Nat},(?cF f n).natAbs=kY (fun r=>(f r).natAbs) n:=fun {n}=>by
 induction n generalizing f with
 | zero=>rfl
 | succ n ih =>
   have e:∀m,?nF=f 0*?rW:=fun m=>by
    induction m with
    | zero=>show 1*f 0=f 0*1;omega
    | succ m im =>
      show ?nF*f ?fT=f 0*(?rW*f ?fT);rw[im,qf6]
   rw[e n,qb1,ih];rfl
section
variable[?xL]
theorem T6.stair{k w:Nat}{Q:Mat}{p:?g}(h:?jP):Db w ?dA (fun i=>Q ?V) fun i=>p ?V :=
 ⟨fun j hj=>h.lt ?b5 O9m O9m,?z6 ?hB,fun j c hj hc=>?dT ?b5 c O9m O9m hc,fun j hj=>?bE ?b5 O9m O9m,?z6 ?hU⟩
theorem DP(st:?kZ)(hB:?tW){r c:Nat}(hr:r<z)(hc:c<w):B ?cP c=Am (fun k=>L k ?cP*?bL) ?b1:=by
 rw[hB _ _ (?dF r hr) hc];exact Ot O9m fun k h1 h2=>by rw[?dX k _ h2 (?c4 r k ?e h2),qk7]
theorem iJ[?n0]{i c:Nat}(hi:i<z)(hc:c<w):?dS<=?hQ*2:=by
 refine AB (R:=L) (B:=T) (t:=p) (a:=c) (i:=z) ⟨fun j k _=>?c4 j k,?r6,?q3,fun k j _=>?e2 k j⟩ (?mW) i hi;rw[show Am (fun k=>?bL*L k ?c3) z=B ?c3 c by rw[hB _ _ ?eM hc];exact Al fun k _=>?kK];have:=?hR;exact qa6 (b2 _ _ ?eM hc) (?kO)
theorem MK[?n0]:∀i,i<=z->∀s:?g,(∀l,l<i->s l<w+z)->(det i ?o8).natAbs<=?qX:=fun i hi s hs=>by
 let Z:Mat:=?o8
 let V:Mat:=fun r l=>?uH
 have e:det i V=?cF (fun j=>L j ?c3) i*?oI:=BG (T:=fun r j=>?m6) (fun r c _ _=>rfl) i ?l
 have e2:?oI=det i Z:=Da fun r c hr _=>by
  show(if r<i then Z r c else V r c)=Z r c;rw[?o hr]
 rw[e2]at e
 have vle:∀r l,r<i->l<i->(?gB).natAbs<=2*?l3:=fun r l hr hl=>by
  have pr:=?qR;by_cases c1:s l<w
  . have:?gB=B ?cP ?eL:=by
     rw[DP st hB ?e c1];exact Al fun j _=>by show ?m6*?wD=_;rw[?bM c1]
    rw[this];exact qa6 (b2 _ _ (?dF r O9m) c1) O9m
  . have zv:∀j,Z j l=if j=?cL then 1 else 0:=fun j=>by
     show ?wD=_;unfold beside;rw[?j c1];rfl
    by_cases c2:?cL<r+1
    . have:?gB=L (?cL) ?cP:=by
       show ?uH=_;rw[?E c2 fun j _ ne=>by rw[zv,?hE,qf3],zv,?u,qn1]
      rw[this];rcases qg7 (?cL) r with q | q
      . obtain⟨r1,r2⟩:=?e2 (?cL) r q O9m;omega
      . rw[?yN ?cL r];omega
    . have:?gB=0:=Bi fun j hj=>by rw[zv,?v,qf3]
      rw[this];exact ?O
 have big:=Wc (B:=fun r=>2*?l3) vle;rw[e,qb1,nO,RQ]at big;have pos:0<?uU:=RS fun r hr=>by have:=?qR;omega
 refine qq6 (c:=?uU) ?_ pos;refine qa6 big (qk6 ?_)
 grind
universe e9
structure Lev(q m z:Nat)(D L G:Mat):Prop where
 st:∃p,?kZ
 du:∀i j,i<z->j<z->Am (fun c=>G i c*L j c) m=?g8
 cyc:∀i,i<z->?y9 (L i)
 all:∀v:?i,(?y9 v)->∀c,c<m->v c=Am (fun i=>Am (fun a=>?cJ*v a) m*L i c) z
noncomputable def gT(m:Nat)(G B:Mat):Mat:=fun i c=>?uL
section
variable{q m z w:Nat}{D L G B:Mat}
theorem Lev.first(m:Nat)(D:Mat):Lev 0 m m D one one:=by
 have d:∀i j,i<m->j<m->Am (fun c=>one i c*?g4) m=?g8:=fun i j hi hj=>by
  rw[?E hi fun k _ ne=>?w1];unfold one;rw[?u,qd5];by_cases z:i=j
  . rw[?K,?o ?aC]
  . rw[?S,?j fun y=>z y.symm]
 refine⟨⟨fun i=>i,fun j hj=>hj,fun j k h _=>h,fun j c _ hc=>?j O9m,fun j _=>by show 0<one j j;unfold one;rw[?u];decide,fun k j hk _=>?_⟩,d,fun i _ x hx=>O9m,fun v _ c hc=>?_⟩
 . show 0<=one k j/\one k j<one j j;unfold one;rw[?v,?u];decide
 . rw[?E hc fun i hi ne=>by
    show _*one i c=0;unfold one;rw[?hE,qf3]]
   show v c=Am (fun a=>one c a*v a) m*one c c;rw[?E hc fun a _ ne=>?w1];unfold one;rw[?u,qd5,qn1]
theorem Lev.told[?wX]:∀a c,a<m->c<w->?bT=Am (fun i=>L i a*gT m G B i c) z:=fun a c ha hc=>by
 rw[h.all (fun a=>?bT) (tw c hc) a ha];exact Al fun i _=>?kK
theorem YM(m w:Nat)(G B:Mat)(v:?i)(i:Nat):?j6=Am (fun a=>?cJ*?N w B v a) m:=by
 have e1:?j6=Am (?AB (fun a=>?cJ*?bT*v c) m) w:=Al fun c _=>by
  show ?uL*v c=_;rw[←Hu]
 rw[e1,C9]
 exact Al fun a _=>by
  show Am (fun c=>?cJ*?bT*v c) w=?cJ*Am (fun c=>?bT*v c) w;rw[←Bg];exact Al fun c _=>?i1
theorem Lev.next{E k:Nat}[?d6]{P PB Q QB:Mat}{p:?g}[?wX](dg:Ik z w k E (gT m G B) P PB Q QB f)(il:Om z ?lL)(ir:?u1)(lo:?jP) :
 Lev m w ?dA B (fun i=>Q ?V) fun i=>QB ?V:=by
 have tl:=?lU tw;have mw:=dg.mw;refine⟨⟨_,lo.stair⟩,fun i j hi hj=>?_,fun i hi x hx=>?_,fun v hv c hc=>?_⟩
 . have:=dg.dr ?b5 ?V O9m O9m;unfold pD at this;rw[show Am (fun c=>?rB*Q ?b5 c) w=Am (fun c=>Q ?b5 (0+c)*?rB) w from Al fun c _=>by rw[qt4,qf4],this];by_cases z:i=j
   . rw[?K,?dR]
   . rw[?S,?v]
 . have t0:=dg.spare il (y:=k+i) O9m O9m
   have e:?pH=Am (fun a=>L a x*?N w (gT m G B) (Q ?V) a) z:=by
    have e1:?pH=Am (?AB (fun a=>L a x*?pD*?fN) z) w:=Al fun c hc=>by
     rw[tl x c hx hc,←Hu]
    rw[e1,C9]
    exact Al fun a _=>by
     show _=L a x*Am (fun c=>?pD*?fN) w;rw[←Bg];exact Al fun c _=>?i1
   rw[e];exact ?zQ t0
 . have t0:∀i,i<z->?j6=0:=fun i _=>by
    rw[YM];exact ?zQ hv
   rw[dg.madeS ir t0 c hc];exact Al fun i _=>by rw[show ?lI=Am (fun a=>?w2*v a) w from ?z5 ?kK]
universe e9
section
variable{q m z w k E:Nat}{D L G B P PB Q QB:Mat}[?d6]
noncomputable def turnL(z:Nat)(P L:Mat):Mat:=fun i c=>?o3
theorem mX(z m:Nat)(D P L:Mat)(i x:Nat):?wE=Am (fun j=>P i j*?N m D (L j) x) z:=by
 have e:?wE=Am (?AB (fun j=>P i j*(D x c*L j c)) z) m:=Al fun c _=>by
  show D x c*?o3=_;rw[←Bg];exact Al fun j _=>?bY
 rw[e,C9];exact Al fun j _=>by rw[Bg];rfl
theorem Lev.round(h:?mK)(i:Nat):?y9 (?g1 z PB L i):=fun x hx=>by
 rw[mX];exact Bi fun j hj=>by rw[h.cyc j hj x hx,qf3]
theorem Lev.gauge(h:?mK)(dl:Fe z 0 P PB){i j:Nat}(hi:i<z)(hj:j<z):?kH=?g8:=by
 have e1:?kH=?z4 ?hC:=by
  have:?kH=Am (fun c=>?z4 (?dZ*?gD)) m:=Al fun c _=>by
   show ?z4 ?dZ*?gD=_;rw[←Hu];exact ?z5 ?i1
  rw[this,C9];exact ?z5 ?pS
 have e2:∀a,a<z->?hC=PB j a:=fun a ha=>by
  have:?hC=Am (fun b=>?mF*Am (fun c=>?v4) m) z:=by
   have:?hC=Am (?AB (fun b=>?mF*(?v4)) z) m:=Al fun c _=>by
    show ?dZ*Am (fun b=>?mF*L b c) z=_;rw[←Bg];exact Al fun b _=>?bY
   rw[this,C9];exact Al fun b _=>?pS
  rw[this,?E ha fun b hb ne=>by rw[h.du a b ha hb,?j ?jQ,qf3],h.du a a ha ha,?u,qn1]
 rw[e1,Al fun a ha=>by rw[e2 a ha]];have:=dl i j hi hj;unfold pD at this;rw[←this];exact Al fun c _=>by rw[qt4]
universe e9
universe Lat
namespace Hb
open Lat
noncomputable def kB(n:Nat):Nat:=?oT (?iZ)+1
noncomputable def OO(f:?g):?g
 | 0=>f 0
 | n+1=>max (f ?q) (OO f n)
noncomputable def kP(b i:Nat):Nat:=max b (?oT (?k0)+1)
noncomputable def kS[?a6]:Nat:=?jN+6
noncomputable def bookF:Nat:=27000000
noncomputable def Ao0[?a6]:Bool:=nZ n w ?q ?fL ?i3 (kB n+n+8) (?jN) (kS n w) (kS n w+w+2) (?zW ?fL n) (?zW (?jN) w) bookF
theorem UB:(Z8 41 fun n=>Z8 (41-n) fun w=>Ao0 n w)=true:=?nR
theorem yR:∀{i n:Nat},i<=n->?qX<=?iZ:=fun {i n} h=>by
 induction n with
 | zero=>rw[?o5];ext Z
 | succ n ih =>
   by_cases e:i=n+1
   . rw[e];ext Z
   . refine qa6 (?bX) ?_;show ?iZ<=?q*cJ n*?iG;exact qf0 (ql1 _ O9m) (?lB)
theorem mK[?xL][?n0](h:z+w<=40):d6 z w T (ZF z w (2 ^ kB z) bookF (kS z w) T):=by
 have P:=NY (K4 (K4 UB z O9m) w O9m);refine Af4 P (fun i c hi hc=>?_) fun i hi s hs=>?_
 . refine qa6 (iJ st hB b2 hi hc) ?_;rw[←qg6];exact ?lB
 . refine qa6 (MK st hB b2 i hi s hs) (qa6 (yR hi) ?_);exact qd8 Nat.lt_log2_self
universe Hb
namespace Hb
open PySem L2
noncomputable abbrev Ms:=?jO
noncomputable def nd(ms:Ms):Prop:=(?b6 (·.1)).Nodup
noncomputable def nz(ms:Ms):Prop:=∀p∈ms,p.2≠0
noncomputable def Jf(ms:Ms)(k n:Int):Ms:=if ?bG+n=0 then ?fG else putI ms k (?bG+n)
noncomputable def Gv(ms ns:Ms):Ms:=ns.foldl (fun acc p=>Jf acc p.1 p.2) ms
noncomputable def T9(n:Int)(ms:Ms):Ms:=if n=0 then [] else ?b6 fun p=>(p.1,n*p.2)
noncomputable def Fk(ms:Ms):Ms:=ms.filter fun p=>?L (p.2≠0)
theorem Ka[?iV](h:?cC=?aL):?h4∈ms:=by
 induction ms with
 | nil=>simp[lookI]at h
 | cons p ms ih =>
   rw[Dd]at h;by_cases e:?c8
   . rw[?i2]at h;have:p=?h4:=by cases p;simp_all
     rw[this];exact qe2 ..
   . rw[?j e]at h;exact qc5 _ (ih h)
theorem LH[?iX](h:k ∉ ?b6 (·.1)):?cC=none:=by
 cases e:lookI ms k with
 | none=>rfl
 | some v=>exact ?bF (qk8 (f:=(·.1)) ?mP) h
theorem F7[?bJ]{p:?aH}(hp:p∈ms):?c7 ms p.1=?c p.2:=by
 induction ms with
 | nil=>cases hp
 | cons q ms ih =>
   rw[Dd];unfold nd at h;rw[qe0,qh6]at h;rcases qb9.mp hp with rfl | hp
   . rw[?u]
   . have:¬q.1=p.1:=fun z=>h.1 (by rw[z];exact qk8 (f:=(·.1)) hp);rw[?j ?F];exact ih h.2 hp
theorem Jb[?iX](h:k ∉ ?b6 (·.1)):?bG=0:=by unfold Bu;rw[LH h];rfl
theorem Ig(p:?aH)(ms:Ms)(k:Int):Bu (p::ms) k=if ?c8 then p.2 else ?bG:=by
 unfold Bu;rw[Dd];split<;>rfl
theorem eU[?iU](k:Int):?cC=if ?bG=0 then none else ?c (?bG):=by
 unfold Bu;cases e:lookI ms k with
 | none=>rfl
 | some v =>
   have:=h _ ?mP;show ?aL=if v=0 then none else ?aL
   rw[?j ?F]
theorem Y3:∀(l1 l2:?cR),l1.Nodup->(∀x∈l1,x∈l2)->l1.length<=l2.length
 | [],l2,_,_=>?O
 | x::l1,l2,h,hs=>by
   rw[qh6]at h;have hx:=hs x (qe2 ..)
   have:=Y3 l1 (l2.erase x) h.2 fun y hy=>by
    have ne:y≠x:=fun z=>h.1 (z▸hy);exact(List.mem_erase_of_ne ne).mpr (hs y (qc5 _ hy))
   have e:=List.length_erase_of_mem hx;have:0<l2.length:=List.length_pos_of_mem hx;rw[qd0];omega
theorem nG[?xO](h:∀k,?cC=?c7 ns k):?sR:=by
 have sub:∀{as bs:Ms},nd as->(∀k,?c7 as k=?c7 bs k)->∀x∈as.map (·.1),x∈bs.map (·.1):=fun {as bs} ha hh x hx=>by
  obtain⟨p,hp,rfl⟩:=?fK hx;have e:=F7 ha hp;rw[hh]at e;exact qk8 (f:=(·.1)) ?mP
 have l1:=Y3 _ _ h1 (sub h1 h);have l2:=Y3 _ _ h2 (sub h2 fun k=>(h k).symm);rw[qa4,qa4]at l1 l2;unfold sameC;rw[qc2];refine⟨?r5,qe1.mpr fun p hp=>qf8 ?_⟩;rw[←h];exact F7 h1 hp
theorem kU[?xO](z1:nz ms)(z2:nz ns)(h:∀k,?bG=Bu ns k):?sR :=
 nG h1 h2 fun k=>by rw[eU z1,eU z2,h]
theorem sU[?bJ](k:Int):nd (?fG):=by
 unfold nd Hs at *;ext x3
theorem sQ[?iU](k:Int):nz (?fG):=fun p hp=>h p (qi2.mp hp).1
theorem Xl[?iX]:(ms.any fun p=>?L (?c8))=true↔k∈?b6 (·.1):=by
 rw[qo9,qd9];constructor
 . ext x2
 . ext x2
theorem gW[?bJ](k v:Int):nd (?cZ):=by
 unfold nd putI at *;split
 . rw[ql3]
   have e:((fun p:?aH=>p.1) ∘ fun p:?aH=>if ?c8 then(p.1,v) else p)=(·.1):=by
    funext p
    simp only[Function.comp];split<;>rfl
   rw[e];exact h
 . rename_i hn
   rw[Xl]at hn;rw[qb5,qw0];refine⟨h,?gF,fun a ha b hb e=>?_⟩;have:b=k:=?k9
   exact hn (by rw[←this,←e];exact ha)
theorem BW[?iV]{p:?aH}(hp:p∈?cZ):p∈ms\/p=?h4:=by
 unfold putI at hp;split at hp
 . obtain⟨q,hq,e⟩:=?fK hp;by_cases z:q.1=k
   . rw[?K]at e;right;rw[←e,z]
   . rw[?S]at e;left;rw[←e];exact hq
 . rcases ql2.mp hp with h | h
   . exact ?iH
   . exact ?J (by simpa using h)
theorem JH(ms:Ms)(k v:Int):?zJ ?cZ ?pC:=by
 unfold putI;split
 . rw[qa4];omega
 . rw[qc3];simp
theorem oS(ms:Ms)(k:Int):?zJ ?fG ms.length:=qh9 ..
theorem xC[?iU]{k v:Int}(hv:v≠0):nz (?cZ):=fun p hp=>by
 rcases BW hp with q | q
 . exact h p q
 . rw[q];exact hv
theorem oM[?bJ](k n:Int):nd ?fS:=by unfold Jf;split;exact sU h k;exact gW h k _
theorem oE[?iU](k n:Int):nz ?fS:=by
 unfold Jf;split
 . exact sQ h k
 . rename_i q;exact xC h q
theorem BZ(ms:Ms)(k n:Int):?zJ ?pL ?pC:=by
 unfold Jf;split
 . have:=oS ms k;omega
 . exact JH ..
theorem jO(ms:Ms)(k n j:Int):Bu ?fS j=if j=k then ?j4+n else ?j4:=by
 unfold Jf;split
 . rename_i q
   unfold Bu at *;rw[HA];by_cases e:j=k
   . subst e;simp;omega
   . simp[e]
 . unfold Bu at *;rw[aK];by_cases e:j=k
   . subst e;simp
   . simp[e]
theorem jC:∀(ns ms:Ms),nd ms->nz ms->nd ns->nd ?gU/\nz ?gU/\?oK/\∀j,Bu ?gU j=?j4+Bu ns j
 | [],ms,h1,h2,_=>⟨h1,h2,?p1,fun j=>by simp[Gv,Bu,lookI]⟩
 | p::ns,ms,h1,h2,h3=>by
   unfold nd at h3;rw[qe0,qh6]at h3;obtain⟨r1,r2,r3,r4⟩:=jC ns (Jf ms p.1 p.2) (oM h1 _ _) (oE h2 _ _) h3.2;refine⟨r1,r2,?_,fun j=>?_⟩
   . have:=?u9;ext x4
   . show Bu (?oL) j=_;rw[r4,jO,Ig];by_cases e:j=p.1
     . have:=Jb h3.1;subst e;simp[this]
     . have e':¬p.1=j:=?lO;simp[e,e']
theorem Ah2[?bJ]:nd (?f7):=by
 unfold nd Fk at *;ext x3
theorem yM[?bJ](k:Int):?mR=?bG:=by
 induction ms with
 | nil=>rfl
 | cons p ms ih =>
   unfold nd at h;rw[qe0,qh6]at h;unfold Fk;rw[qm5,Ig];by_cases e:p.2=0
   . rw[?j (?fC)];show ?mR=_;rw[ih h.2];by_cases q:?c8
     . rw[?gY,e,←q,Jb h.1]
     . rw[?dB]
   . rw[?o (?fC),Ig];show(if ?c8 then p.2 else ?mR)=_;rw[ih h.2]
noncomputable def XX(ms:Ms):Prop:=∀p∈ms,0<=p.1/\p.1<40
theorem GV[?bJ](n:Int):nd (?b6 fun p=>(p.1,n*p.2)):=by
 unfold nd at *;rw[ql3];exact h
theorem EU:∀(ns ms:Ms),?oK
 | [],ms=>?p1
 | p::ns,ms=>by
   have h1:=EU ns (Jf ms p.1 p.2);have h2:=?u9;ext x4
theorem kZ{ms ns:Ms}{i:Nat}{q:?aH}(h:ns[i]?=?c q):Gv ms (ns.take ?p)=Jf (Gv ms (ns.take i)) q.1 q.2:=by
 unfold Gv;rw[qo1,h,qr3];rfl
theorem mY[?bJ][?xF]:q.1 ∉ (ms.take i).map (·.1):=by
 intro hm;obtain⟨p,hp,e⟩:=?fK hm;obtain⟨j,hj,ej⟩:=List.mem_take_iff_getElem.mp hp;have hij:j<i:=O9m
 have hi:i<ms.length:=(?fP hq).1;unfold nd List.Nodup at h;rw[qr1,qq7]at h;have:=h j i O9m hi hij;rw[qa0 hi]at hq;have hq':=qc6 hq;exact ?F (by rw[ej,hq',e])
theorem aW{ms:Ms}[?xF]:Fk (ms.take ?p)=if q.2=0 then Fk (ms.take i) else Fk (ms.take i)++[q]:=by
 unfold Fk;rw[qo1,hq,qn8];by_cases e:q.2=0<;>simp[e]
theorem TY[?iX](h:k ∉ ?b6 (·.1)):k ∉ (?f7).map (·.1):=fun hm=>by
 obtain⟨p,hp,e⟩:=?fK hm;exact h (qd9.mpr ⟨p,(qi2.mp hp).1,e⟩)
theorem jI(ms:Ms):?zJ ?f7 ms.length:=qh9 ..
section
variable{H H1:Hp}{a:Addr}[?iV]
theorem Xh(rd:?hX):DGet H a (?m k) ((?cC).map ?cD):=?t ⟨?a7,?t k,rd,rfl,(iI ms k).symm⟩
theorem Tp(rd:?hX)(h:?cC=?aL):DGet H a (?m k) (?c (?m v)):=?t ⟨?a7,?t k,rd,rfl,by rw[iI,h];rfl⟩
theorem Xg(h:?zB H a)(hl:?tG):ZH H a (?m k) (?m v) (upd H a (.dK (cK (?cZ)))):=by
 rw[←yX];exact ?t ⟨?a7,?t k,h,rfl,by unfold cK;rw[qa4];exact small hl,rfl⟩
theorem Oa{i:Nat}{kk:Key}{x:V}(h:(?a7)[i]?=?c (kk,x)):∃p:?aH,ms[i]?=?c p/\kk=?t p.1/\x=?m p.2:=by
 unfold cK at h;rw[qa9]at h;cases e:ms[i]? with
 | none=>rw[e]at h;cases h
 | some p =>
   rw[e]at h;have:=qc6 h;simp only[Prod.mk.injEq]at this;exact⟨p,rfl,this.1.symm,this.2.symm⟩
theorem Mb:(?a7).length=ms.length:=by unfold cK;rw[qa4]
theorem wH{o:HO}(h:H a=?T):upd H a o=H:=by
 funext b
 by_cases e:b=a
 . rw[e,Ab,h]
 . rw[Aj e]
theorem EZ{x:HO}{D:Addr}(h:(upd H a x) D=none):?gH/\D≠a:=by
 have n:D≠a:=fun z=>by rw[z,Ab]at h;cases h
 rw[Aj n]at h;exact⟨h,n⟩
theorem RK{o:HO}{b:Addr}(s:?kT)(h:Rd H b o):Rd H1 b o:=by
 rcases h with h|⟨q,h⟩
 . exact ?t (s _ _ h)
 . exact ?J ⟨q,s _ _ h⟩
universe e9
theorem put_new[?iV](h:k ∉ ?b6 (·.1)):?cZ=ms++[?h4]:=by
 unfold putI;rw[?j (fun z=>h (Xl.mp z))]
noncomputable def oG(H:Hp)(ms:Ms)(Q:V->?mT):Prop:=∀(D:Addr) (H':Hp),?gH->?aB->?zB H' D->?uZ
section
variable[?aD]
noncomputable def P7(_K:W.Frag):Sp:=fun vs H Q _=>T7 fun ?pA (ms:Ms) (k n:Int)=>B6 (vs=[?d8,?m k,?m n]) (?zB H a) (?tG) (Q .non (upd H a (.dK (cK ?fS))))
noncomputable def iZ(_K:W.Frag):Sp:=fun vs H Q _=>T7 fun(a b:Addr) (ms ns:Ms)=>K8 (vs=?wG) (?hX) (H b=?c (.dK (cK ns))) (ms.length<=1000) (ns.length<=1000) (oG H ?gU Q)
noncomputable def dQ(_K:W.Frag):Sp:=fun vs H Q _=>Qt fun(n:Int) ?pA (ms:Ms)=>Dp (vs=[?m n,?d8]) (?zB H a) (ms.length<=1000) ((∀p∈ms,?hT n p.2)) (oG H (T9 n ms) Q)
universe e9
universe Hb
namespace Hb
universe Hb
namespace Hb
open PySem L2
theorem I0{α:Type}{l:?e7}{i:Nat}{d:α}:?t3∈l\/?t3=d:=by
 rw[qa7];by_cases h:i<l.length
 . rw[qa0 h];exact ?t (qe4 h)
 . rw[qh3 ?e];exact ?J rfl
theorem kR{xs:At}(h:Ef xs):∀x∈xs,x.length<=4:=fun x hx=>by
 obtain⟨k,hk⟩:=qg1 hx;have:=(h k x hk).cnt;omega
section
variable[?d7]{H:Hp}
universe e9
section
variable[?aD]
universe e9
universe Hb
namespace L2
open PySem PySem.Spec PyProof.Rows
open AutoSeq1 (wpAny_loadPart')
theorem lW(t:Addr)(vs:?j5)(n:Nat)(dd:OAddr)(sl:Ra):Meets (Builtin.«enumerate.__new__» ⟨[?mQ,?f t],[]⟩) (fun _ R s=>?sA t=?c { cls:=?cX,dict:=dd,data:=?o7,slots:=sl } ∧
 R (.ok (.ret (?f ?t6))) { s with heap:=(?fM).push ?kJ }) :=
 .of_wp fun prog w A R s h=>by
  obtain⟨hp,g,d,tk,os⟩:=s;obtain⟨q1,q2⟩:=h;have hsub:=sub_enumerate;have gt:Heap.IsTuple (Shared.heap ⟨hp,g,d,tk,os⟩) t vs:=⟨_,q1,rfl,n,rfl⟩
  wp_walk using wpAny_loadPart' q1
  refine wpAny_stack_any fun st=>?gP;split
  . rename_i c _ _ _ _ _
    cases (c==Value.type ?mX)
    . ext n5
      exact ?mB
    . ext n5
      exact ?mB
  . ext n5
    exact ?mB
section
variable{prog:Program}{w:World}{A:Around}{E:?lK}{s:Shared}
theorem HU[?n6]{x old:Value}{Q:?lK}[?n2](gx:vs[n]?=?c x)(ne:e≠j)
 (k:∀h',?sS->?rH->?yB x->?vU →
   ?zI (?gT)) :
 ?I ?hP A (Builtin.«enumerate.__next__» ⟨[?f e],[]⟩) (fun fin s'=>∃r,fin=.done (.ret r)/\Q r s') E s:=by
 obtain⟨hp,g,d,tk,os⟩:=s;ext wR;refine qa3 (Jp gj gt gx fun k1 gj1 w1=>?_)
 replace w1:?bP j hp k1:=w1
 have ge1:?zD k1 n:=(w1.2 e ne).trans ge;show ?yH 3 ?jJ;refine qa3 (qg9 ge1 rfl (x:=?kP n) rfl ?_);show ?yH 4 ?jJ;refine qa3 (qg9 ge1 rfl (x:=?b7) rfl ?_);show ?I _ _ (mkInt n>>=_) _ _ ?jJ;refine qa3 (wpAny_mkInt ?_);show ?I _ _ (?vS ?aU 3 (?kP ?bH)>>=_) _ _ ⟨k1,g,d,tk+1,os⟩;refine qa3 (qh7 ge1 ?aE fun k2 ge2 w2=>?_)
 replace w2:?bP e k1 k2:=w2
 replace ge2:?zD k2 ?bH:=ge2
 show ?xZ (?vS ?aU 4 ?b7>>=_) k2;refine qa3 (qh7 ge2 ?aE fun k3 ge3 w3=>?_)
 replace w3:?bP e k2 k3:=w3
 replace ge3:?zD k3 ?bH:=ge3
 show ?xZ (newTuple [?q8,x]>>=_) k3;refine qa3 (wpAny_newTuple ?_);have ge4:?zD (?pT) ?bH:=qa5 _ ge3;generalize tP:?pT=k4 at ge4;have sz:k3.objs.size=hp.objs.size:=by rw[w3.1,w2.1,w1.1]
 have le:e<hp.objs.size:=qb2 ge;have gt4:k4.get? ?hV=?c ?uP:=by rw[←tP,←sz];exact ?kF
 have sz4:k4.objs.size=hp.objs.size+1:=by rw[←tP,qi0,sz]
 have kp4:∀b o,?dP->b≠j->hp.get? b=?T->k4.get? b=?T:=fun b o n1 n2 q=>by
  rw[←tP];exact qa5 _ (?qF b o n1 (?uQ b o n1 (w1.extBut b o n2 q)))
 have gj4:k4.IsTupleIter j t ?q:=by
  rw[←tP];obtain⟨o,q,r⟩:=(gj1.extBut ?uQ ?e8).extBut ?qF ?e8;exact⟨o,qa5 _ q,r⟩
 show ?xZ (Builtin.SmallTypes.ownedTupleIsFree ?aU>>=_) k4;rw[sz];clear tP ge3 w3 ge2 w2 ge1 w1 gj1 sz k3 k2 k1;refine qa3 ?_;unfold Builtin.SmallTypes.ownedTupleIsFree;refine qa3 (qg9 ge4 rfl (x:=?b7) rfl (?gP));simp only[if_true];refine qa3 (qv7 ?_);refine qa3 (qg9 ge4 rfl (x:=old) rfl ?_);refine qa3 (qh7 ge4 ?aE fun k5 ge5 w5=>?_)
 replace w5:?bP e k4 k5:=w5
 replace ge5:?aN k5 e j ?bH x:=ge5
 show ?xZ (Builtin.SmallTypes.ownedTupleHandOut ?aU (?f ?hV)>>=_) k5;refine qa3 ?_;unfold Builtin.SmallTypes.ownedTupleHandOut;refine qa3 (qh7 ge5 ?aE fun k6 ge6 w6=>?_)
 replace w6:?bP e k5 k6:=w6
 replace ge6:?lE k6 e j ?bH x ?hV:=ge6
 refine qh7 ge6 ?aE fun k7 ge7 w7=>?_
 replace w7:?bP e k6 k7:=w7
 replace ge7:?lE k7 e j ?bH x ?hV:=ge7
 refine qa3 (wpAny_letGo (qb4 ⟨_,rfl,k k7 ge7 ?_ ?_ ?_ ?_⟩))
 . exact((gj4.extBut ?jR ?e8).extBut ?jA ?e8).extBut ?lX ?e8
 . exact ?lX _ _ (qk0 le) (?jA _ _ (qk0 le) (?jR _ _ (qk0 le) gt4))
 . rw[w7.1,w6.1,w5.1,sz4]
 . exact fun b o n1 n2 q=>?lX b o n1 (?jA b o n1 (?jR b o n1 (kp4 b o n1 n2 q)))
theorem Wt[?n6]{x old:Value}[?xN][?n2](gx:vs[n]?=?c x)(ne:e≠j)
 (k:∀h',?sS->?rH->?yB x->?vU →
   ?zI (?c (?gT))):?pR:=by
 ext x1
 unfold pyNext;exact qa3 (?xU (HU ge gj gt gx ne fun h' a b c d q=>qb4 (k h' a b c d q)))
theorem Yw[?n6]{old:Value}[?xN](hn:A.handled=none)[?n2](gx:vs[n]?=none)
 (k:∀h',Heap.ExtBut j ?eK h'->Q ?G ?t5):?pR:=by
 ext x1
 unfold pyNext;refine qa3 (?xU ?_);ext wR;refine qa3 (Pk hn gj gt gx fun h' x he hx=>?_);obtain⟨o,q1,q2⟩:=hx;exact qa3 (qu2 (T:="StopIteration") (b:=true) ⟨o,q1,q2⟩ isSubtype_stop (qb4 (k _ he)))
theorem iH{t:Addr}{vs:?j5}{Q:?lK}(gt:?pF)
 (k:∀h',?aN h' (?eJ) ?M 0 ?b7->?nX ?M t 0->h'.objs.size=s.heap.objs.size+2->(∀b o,?m9)->Q (?f (?eJ)) ?t5) :
 ?I ?hP A (call (?mQ) [?f t]) Q E s:=by
 obtain⟨⟨c,dd,dt,sl⟩,q,qc,n,qd⟩:=gt
 replace qc:c=?cX:=qc
 replace qd:dt=?o7:=qd
 subst qc qd;refine callType_new F.called_enumerate ?aO (F.typeCall_enumerate_1 _) (F.newCall_enumerate_1 _) (fun obj=>F.args_object_init_2 obj _) F.entry_enumerate_new (lW t vs n dd sl) ⟨q,?_⟩;have z1:?t6=?eJ:=qi0 ..;show _/\_;rw[z1]
 have ge:?aN ((?fM).push ?kJ) (?eJ) ?M 0 ?b7:=by
  have:=qc0 (?fM) (o:=?kJ) rfl;rw[z1]at this;exact this
 exact⟨?nI,k _ ge ⟨_,qa5 _ (?kF),rfl,rfl⟩ (by rw[qi0,z1]) fun b o x=>qa5 _ (qa5 _ x)⟩
universe e9
noncomputable def IteT[?aD](a:Addr):It :=
 ⟨fun i H=>∃xs x,?dD/\?fV=?c x,fun i H x H'=>∃p v,?rS/\x=?P/\H'=upd H p (.tup [?d0,v])/\∀xs,?dD->?fV=?aL,fun i H=>∃xs,?dD/\xs.length<=i⟩
theorem gC{P:Program}{w:World}[?d7]{es:?a1 Expr}{x1:Nat}{tpos:Pos}(a e it:Addr)(hne:e≠it):Vo P w K (.Tuple es x1 tpos) (IteT K a) ?jI e (fun i h=>(∃old,?aN h e it (i:Int) old)/\h.IsTupleIter it a i) where
 mem:=?gF
 obj:=fun i h st b hb=>by
  obtain⟨⟨old,h1⟩,o,h2,c,d⟩:=st;ext n9
  . exact⟨_,h1,fun v z=>by cases (show Data.fields _=Data.cell v from z)⟩
  . ext n8
    subst z;exact⟨o,h2,fun v z=>by rw[d]at z;cases z⟩
 keep:=fun i h h' st k=>by
  obtain⟨⟨old,h1⟩,h2⟩:=st;exact⟨⟨old,k e ?aE _ h1⟩,h2.at fun o z=>k it ?aE o z⟩
 item:=by
  ext wP;obtain⟨xs,x,hq,hx⟩:=hg;obtain⟨its,rv,p,hz⟩:=?qJ;obtain⟨u,hu,ru⟩:=rv.get hx;have fe:=hf e ?aE;have fi:=?q0;have lte:e<s.heap.objs.size:=qb2 h1;have hfresh:H ?M=none:=I.hok.fresh ?l;refine Wt h1 h2 (show ?lR a ?l0 from p) (x:=u) (by simpa using hu) hne fun h' hout LO htup hsz hk=>?_;refine⟨_,rfl,wpAny_letOwnedTupleGo_enum hout fun h3 hen Oh=>?_⟩
  replace Oh:?bP e h' h3:=Oh
  have kk:∀b o,?dP->b≠it->?pE->h3.get? b=?T:=fun b o n1 n2 z=>(Oh.2 b n1).trans (hk b o n1 n2 z);have TM:h3.get? ?M=?c { cls:=?cX,data:=.seq #[?o0,u] }:=(Oh.2 _ (qk0 lte)).trans htup;have hi3:h3.IsTupleIter it a ?p:=LO.at fun o z=>(Oh.2 it hne.symm).trans z;have bV:∀b,b ∉ ?jI->?tT:=fun b hb=>?k9
  have j8:∀b v,H b=?aL->?tT:=fun b v z=>⟨Ao z fe.1,Ao z fi.1⟩
  have Tb:∀b v,H b=?aL->b≠s.heap.objs.size:=fun b v z=>Ao z hfresh;refine⟨?gT,?nU,?_,rfl,⟨?M,x,hfresh,rfl,rfl,fun ys hy=>by rw[I.tuple_inj hy hq];exact hx⟩,⟨⟨_,hen⟩,hi3⟩,?v9⟩
  . refine Bl.step (s:=s) (h':=h3) (t':=?w5) (H':=?nU) I (g':=s.gens) (d':=s.drawn) (ch:=?jI) (?v9) (fun b o _ _ hb z _=>?kB) (fun b o _ _ hb z _=>⟨o.slots,?kB⟩) (fun b o hb z n=>?_) (fun b o hb z=>⟨o,?kB⟩)
     (fun b ys z=>?oF) (fun b o v z=>?oF) (fun b ps z=>⟨#[],by rw[Aj (Tb b _ z),z];simp⟩) (?tN) (fun b v z=>?_) I.bare
    . ext n9
      . exact⟨fe.2.2.2.1,fe.2.1,fe.2.2.2.2.1,fe.2.2.2.2.2⟩
      . ext n8
        subst z;exact⟨fi.2.2.2.1,fi.2.1,fi.2.2.2.2.1,fi.2.2.2.2.2⟩
    . rw[Aj (qc7 (qb2 z))];exact n
    . obtain⟨o,es',ep,ho,r⟩:=hm;exact⟨o,es',ep,kk _ o fe.2.1.symm fi.2.1.symm ho,r⟩
    . by_cases hb:b=s.heap.objs.size
      . subst hb;rw[Ab]at z;cases z;exact⟨(by show(2:Nat)<=sizeLine;decide),[?o0,u],.cons ?sE (.cons ru .nil),⟨_,TM,rfl,rfl,_,rfl⟩⟩
      . rw[Aj hb]at z;refine(I.hok b v z).stay (fun c y hc' q=>?_) (fun c q=>?vJ) fun c ys q=>?vJ
        rcases hc' with rfl | hc'
        . exact kk _ _ (?sB).1 (?sB).2 q
        . exact kk _ _ (?uE).1 (?uE).2 q
  . have lb:b<s.heap.objs.size:=by
     ext n9
     . exact lte
     . ext n8
       subst z;obtain⟨o,z,_⟩:=h2;exact qb2 z
    rw[Aj (qc7 lb)];exact(hf b hb).1
 done:=by
  ext wP;obtain⟨xs,hq,hx⟩:=hg;obtain⟨its,rv,p,hz⟩:=?qJ;obtain⟨f0,f1,f2,f3,f4,f5⟩:=?q0;have hl:=rv.length;exact Yw (?v0) h1 h2 (show ?lR a ?l0 from p) (?r5) fun h' eb=>⟨rfl,I.turned (t':=s.toks) (fun b o hb z=>eb b o hb z) f0 f1 f3 f4 f5⟩
 self:=fun _ _ _ _ _ st h=>by
  obtain⟨⟨old,h1⟩,h2⟩:=st;exact qt0 h1 h
end
mutual
#check(5,[?a,?b,some,.int,.inl,?G V,.ref,.(by decide +kernel),.(by ext h),?G Str,.inr,G σ H,xs.getD,∀{G:?fQ},a,(pv 0),.lst,?G Int,∀(K:W.Frag),a,?g a,decide,Same,G σ,∀{G:?x9 St},a,(?e7),if_neg,(pv 1),.tup,(xs:At),base,Nat->Int,(by omega),if_pos,List,?x9 Hp,?u H H',.(by simpa using h1),∀(xs:At)(k:Int),a,∀(φ:?jE),a,.(by ext J),(LT K H (?s) xs),FnScope,F.okZ,fun Dk A outer s H vs Q E hr h=>?_,∀(T:Ff K mg Ag Ad Ah Ax),a,∀{f:Addr}{fd:FuncData},a,a.fdiv b,?w9 ms,qd9.mp,(k:Int),ms.map,V.int,(fun _ _=>rfl),(pv 2),∀{A0:Type}{S:A0->St},a,∀{K:W.Frag},a,qa2.mp,F1 fs e i,(?eT),_::_,Bu ms k,Same.new,F5 xs k,Int × Int,(j:Int),bookF,G s H,(pv 3),∀{A0 A1:Type}{S:A0->A1->St},a,?G Bs,none,"number",.(by decide),?g b,?G Ms,.(by simp),(O9m),?i1 m 0,Lat.Bits,(0:Int),(n:Int),p::ms,(Bk _),nd ms,?c ?pC,(?eS),?d n,(Be (K:=K)),∀{A0 A1 A2:Type}{S:A0->A1->A2->St},a,∀{vs:?f}{ps:?aG},a,∀(fs:?q)(n:Int),a,∀(xs:At)(ms:Ms),a,∀(ps:?aG),a,p0 x0 x1,xs.length,p.2.2.1,(ms:Ms),(a b:Addr),H D=none,?g c,p.2.2.2,"place",vs[i]?=?c v,p0 x0,(k+1),(?hW),?lK f k0 i,qa1 _,?x2 p0,?d k,(σ=?hH),Q (?g D) H',absurd,?F e,(i+1),?d i,∀(ls:?iD),a,fun D hD=>?_,List.range,(a:Addr),(?gD),qe4 _,(?dZ),(?a9).length,"row",(xs.length:Int),face,A0->?H,fun z=>?_,(?bI),qa0 O9m,(by kernel_rfl),(fun _ _ _ _=>Ce),(.dK (?dS)),∀{ls:?iD},a,.(by infer_instance),.(by split<;>omega),this,(fs.getD j 0),(?aM),2*(?h4),"shape",(p0 x0 H),p.1=k,O c=none,H' D,?vP p0,?y e,(?aX),p0  x0 H,?x2 p1,qe5.mp,["thing"],Cs.nd,(i:Int),(?nH),(?aJ),Uw (?kI) e,?vP S,p1 x0,qa8 _,(?kQ),(?k ?eI),p1 x0 x1,fun p hp=>?_,B5 H vs ps,let s:=(S x0);?aD,?y h,e9 n i,(?dW),.non,IntMulOk,fs.getD i 0,(Dz xs ms),fun z=>O9m,?aQ+?aB,Ho ?a5 v,"enumerate",.(by refine ite2 (fun h1=>?_) (fun h1=>?_)),∀{sp ns:?q}(hl:ns.length=sp.length),a,∀{xs:At}(h4:?n3),a,∀{xs:At}{k:Int},a,∀{ps:?aG},a,∀{v:V}{p:Bs},a,∀{vs:?f},a,qi2.mp,p.2.1,ns.getD i 0,(?qE).length,cK ms,?y9 A0 A1,Dr xs ?bF,let s:=?jZ;G s,σ=?jZ,?G Value,(H b=?c ?c8),xs.length<=40,(p1 x0 H),(?oZ),(us:?f),Nat->?f->?fQ,(?gY),(n+1),"chain",.(by rfl),Lat.one,?c ps,.(by simp;omega),p1  x0 H,sp.length,(?xR p0),small,Lat.turnL,σ=?jV,let s:=S x0;G s,⟨_,rfl⟩,ps[i]?=?gP,p::ps,?w2 p1,φ p.1,Ef xs,(?dB),let s:=(?hH);?aD,(?s8),?c q,σ=S x0,Dr xs k,sp.map,(?xR p1),A0->A1->A2->?H,Hm H v p,?w2 p0,.of Ab,v::vs,[?d a,?d x,?d y],(?rB),?vK S,(?a9).zip,.(by obtain⟨z,k0,L,G,f,l,r,bl,rfl⟩:=h),∀{A0 A1 A2 A3:Type}{S:A0->A1->A2->A3->St},a,.(by rw[qa7,?jO]),∀(hD:H D=?aV),a,∀{xs:At}(hs:?eN),a,.(by simpa using this),∀{ms:Ms}(h:?aU),a,∀(fs:?q),a,∀(s:?I),a,∀(lf:?aL),a,∀(vs:?f),a,∀{us:?f},a,?xV p0,fun _ z=>?qJ,Dw Ls _ ?E,op_mulX,?d p,Ks ps i,Ux ps,0<=p.1,Dw Gs _ ?E,St->?H,Nat->Ms,(?xR p2),.(by simpa using e),Hs ms k,let s:=?hH;G s,p.getD i 0,?wK p0,A0->?y9 A1 A2,"backs",lookI,((?n3)),(?w8 (?lJ)),?F z,.(by cases h),?vP p2,let s:=(?jZ);?aD,?hB+1,"list",.none,Vk Jv _ _,(?qE),fs.length,Gz ms fs n i,Option,(?iR).2,v=?g t,?a7+n,p2 x0,this.1,?F h,(?xW ?o),?c o,2 ^ (bookF+bookF+z),[?d (a-?T*b),?d (x-?T*u),?d (y-?T*v)],?c p,(?eN),(j+1),(?fN),its.toArray[j],(vs=[?s,?aK]),?x2 p2,fun _=>true,Me O H v p,?x6 v,p2 x0 x1,?vP p1,.str x,p<?c0,ms[i],?cT%2,Lat.Mat × Lat.Mat,p2  x0 H,?x9 A0,A0->A1->?H,⟨?k4,Ab,rfl,?aH,rfl⟩,Nat->?fQ,F1 fs k j,?w2 p2,p.getD j 0,(upd H D o),F1 fs k i,(ms.length<=1000),?x2 S,qa0 hi,(?kI).length,qa0 hj,"rows","__init__",its'.toArray[j],Dz xs ?hX,?m ?hQ [],p.1.toNat,s.heap,?g p,Dw zs _ ?E,qd6 ?c4,?i1 i 0,K3 xs ms i,[(p,1)],s1.seq,(0:Nat),(v:V),sp.getD,"other",s _ _ h1,Gr ms,(vs=[?s]),B7 ?cE,?k h,TI.get,(p2 x0 H),IteT K a,fun j hj=>?_,(?mI),?G (?aG),["piece"],∀(xs:At)(k:Int)(z k0:Nat)(L G:Lat.Mat)(f:?D)(l r:?h5),a,∀{xs:At}{k:Int}{ps:?aG}(h:?oT)(Jv:?dZ),a,∀{A0 A1 A2 A3 A4:Type}{S:A0->A1->A2->A3->A4->St},a,.(by have:=(qc6 ?cC).symm;simpa using this),.(by obtain⟨i,hi,rfl⟩:=?lV),∀(s:M4 b H H1)(hb:H b=?c (.dK m)),a,.(by unfold nd at h;rw[qe0,qh6]at h),.(by revert τ;refine Lg ?_),∀(h:Cr O H vs ps),a,∀(h:Fr D H vs ls),a,.bool b,2 ^ bookF,ms.getD i (0,0),"isinstance",["self",?hL,?fZ],⟨?e7,?e7,?e7,?e7⟩,T.n_isinstance,let s:=(?jV);?aD,.(by rw[J0]),fun q hq=>?_,["a","one","b",?i2],"width",p.toNat,?F h.symm,fun _=>rfl,r.length,?F hi,(L N:Addr),Q (?lJ) H,qe5.mpr,A0->A1->A2->?y9 A3 A4,i<=ms.length,?wK p1,0<=q.1/\?kP,F5 xs (k-1),Int->Int,Am _ i,Uw [x,y] e,[?aI,?e6],(?a9).getD j 0,["size","i"],I.tuple,?wS ?eE,?A ds,?w2 p3,qa0 ?E,2 ^ 10,i<vs.length,[?d b,?d u,?d v],By P w K mg ?C Ej k f fd ps sp,let s:=?cX;G s,Pv i σ H,?xA S,⟨rfl,rfl⟩,k D H1 hD s1 Ec,I.list,S x0 x1,?cQ hi,X.prog,qd1 hi,iG Jv _ _,?a8 hD,i<sp.length,[?lE,"j"],Ur xs k n,Jf ?bV ?eO (?d7),i*n.natAbs,ms.length<=40,(?jD).getD,Str->?gE Value,?aQ+?cT,hasDict_toPDs ds,Dr xs 0,?j8 O9m,T.n_range,?m ?j1 [],?vN Iq k,?vZ p0,p3  x0 H,(o4 o5:?gE V),.(by simpa using z),(ps:?aG),q.1<?c0,sp.zip ns,(?g C),H a=?aV/\?nW,q.1.toNat,[none,?c 1],fun e=>?_,s c o e,List.replicate,(yT e),["spots",?e6],?cK=?aV,B5.put,.(by rw[Aj ne];exact h),ms.length,Lat.EuI,?xQ p0,J9 _ _,Pv ?bP,F.binds hb,Bl X Ac σ H s,A0->A1->A2->A3->?H,?p ds,ns.length,Dr xs (k-1),"table",jJ f k0 z,qd1 ?E,(u1 Qk),?m f.toNat [],.bl true,Lat.numAt,?F rfl,?m ?kT [],Cr O H us ps,Q ?d9 H',[?d (-a),?d (-x),?d (-y)],z.symm,?x6 (?eF z l.1 G i),fun z=>?qJ,?c (?s),"bool",?V hp,.(by have e:?iR=?h3:=by ext f7;rfl),∀{A0 A1 A2 A3 A4 A5 A6 A7:Type}{S:?vR St},a,∀{P:Program}{w:World}{K:W.Frag}{mg:?kC},a,∀{f:?D}{l r:?h5},a,∀{st:Stmt}{ps:?j}{k:Nat}{sp:Sp},a,∀(ns:?q)(lo hi:?gE Int),a,.(by unfold lev at la;simp at la),.(by unfold lev at lb;simp at lb),∀(hu:X.A.units+8<cLine),a,∀(D:Addr) (us:?f),a,∀{α:Type}(g:Nat->α),a,∀{a:Addr}{xs:?f},a,∀{f:?p5},a,F5 xs ?bF,let mW:TS:=Ar MP WH;?qQ,Bu ?bV ?eO,.(show k+1-1=k by omega),⟨rfl,rfl,rfl⟩,let u5:TS:=?rA;?mT,let u6:TS:=?q4;?mE,let u2:TS:=?mM;?oE,let WH:TS:=Ar uQ u12;?mA,if ?bH=0 then [] else W2 xs ?bF (r.1 i),Dl K H1 a xs,eW f k0 z,?vP p4,Ar t2 u3,(Qj xs k i j).natAbs,"faces_agree",Dl K H a xs,as.drop k,?v9 p8 Rb,ok _ O9m,let u4:TS:=?pP;?nD,?y7 v ps,ws[i]?=?c w,Oc H vs ls,[iS n,iS p,rS L,rS N,o4,o5],.(by rw[qc3,qc3,h0];rfl),spN xs k i,List.map_id,?xA p0,?v9 p7 Rb,∀x∈xs,x.length<=4,s1.turn hD,?c1 b ?cE,(?A vs),?v9 p2 Rb,?xA p2,["left","right","a","b"],φ (?hV),ms[i].1.toNat,Ar t3 u4,let u3:TS:=?nC;?nT,VI w (f i),["one",?i2],m<sp.length,dM ms fs n j,p4  x0 H,?vO p1,I.hok a _ ha,⟨_,rfl,rfl,_,rfl,?_⟩,s3.trans,Bu ?dC e,xX x e-xX y e,?d (n*p.2),"pieces",fun j hj=>O9m,if ?dB=e then ?a4+1-?cF else ?a4,let u2:TS:=?mM;?nY,S x0 x1 x2 x3 x4 x5 x6 x7 x8,Ft O H vs lf,B5 H us ps,?x2 p3,?vI u2 D',?pD I ds hr rv,[?e6,?bC,?aI],q.2.natAbs,Dw ks _ e,"level_of",Er K n n st f fd,if j=i then 1 else 0,?wQ ?a5 L,Jf ms k n,Ft O H' vs lf,i=vs.length,?wK p2,Lat.mulV,"is_whole",List.Pairwise.filter,?xY u2 D',(?T).natAbs,?vO S,fun z=>h ?lQ,?v9 p5 Rb,[?bZ,"j"],[?cG,"faces"],∀x,x<k0->0<f x,?v9 p3 Rb,⟨Ec,sz,?n4,Ab,?_,_,rfl⟩,?vK p1,?vK p0,Ur xs k ?e5,"add_at",H c=?eR->H1 c=?eR,Oi xs k ps,?xB putI,Ar t9 mW,upd (?vX 0) N0 (?A [?fL,?d 0,?d 1]),.(by simpa using h2),(a D:Addr),toPDs ds,?vD p2,?x2 p4,PV ns lo hi,?g0 ?d0 sp[i],T.n_tuple,Nat->?D,Eq.trans,?G Expr,s1.heap.objs.size+1,let u7:TS:=?rP;?tW,D.nx σ H,j<its'.length,(?p us),readsAll_of,.(by simpa using e2.symm),"shared_divisor",Ar t8 u9,Bu ms p.1,fun j=>?o5,⟨c,e1,e0,e2⟩,let u8:TS:=?pG;?p9,T5 B X us,Hs (?aS) k,N8 xs ?W ms,(?lI).length,Ar t4 u5,(LQ H d),?xA p1,⟨_,hL⟩,"numbers_at",?c1 a ?cE,.(show(?dF).getD j 0=v j by rw[qa7,Xd hj];rfl),∀p∈ps,qC ?b5 p,vs.length=ls.length,?xT S x5,(?iR).1.toNat,?vO p2,"_law_word",fun i=>r.2 (k0+i),Mu B O H c,Ar t6 u7,?wK p3,?t (0<=r.1)&&?t (r.1<?c0),["j","i"],"one_row",O c≠none,if ?aO=k then c else 0,let u12:TS:=Ar ZI u13;?mH,(vs++[v]),⟨?lJ,H,I,rfl,q⟩,?m ?pZ [],?u X X',hall2 i' O9m,(?m ?nB []).length,its.toArray,.(by cases z),?v9 p1 Rb,∀[?b0],?d4->B5 H' vs ps,(?dO h).1,?y (?oH),(p4 x0 H),?u H G',let u9:TS:=?oV;?pK,Uw (?m (?jI).toNat []) (?kB i 0),?a9++F5 xs l,?vP p3,?v9 p6 Rb,s1.trans,Bool->?H,F1 fs f i,(J9 xs k),fun i=>r.1 (k0+i),[?bC,"old",?aI],(σ'=?mX),?vD p1,mainGlobals,qa6 bl.zm (qa6 (F4 _ _ _) Jv),fun _=>(?e8,Lat.one),?w2 p4,fun L3=>L3 _ _ ?jW,?v9 p0 Rb,fun _=>0,Ar t5 u6,dH xs ms i,j<p.length,g.1.toNat,∃z L G,?xH 4,p3 x0 x1,h.2 i v e,Er K n q st f fd,xs[f.toNat]?,h4 x (qb0 e),let u7:TS:=?rP;?mF,⟨?k4,Ab,rfl,?aH,?aH,rfl⟩,let s:=(?f3);?aD,Dw rp _ e,let u8:TS:=?pG;?rK,Ar t7 u8,.bl false,ls.length=4,bl.fin.bl.1,vs.length=ws.length,?xH n,?vO p3,?vZ p1,let u4:TS:=?pP;?t9,let s:=S;?aD,"across",L.2 j _ _ ea eb,(?w7 ta hT),fun T1 hT1=>?_,(qY d).hasDict,∀x0 x1,?dV,vs.length=ps.length,?wQ ?a5 G,Dz xs ?dC,Dr xs ?W,fun j=>?t (?wB j),"column",(?a3 e1).1,"_law_words",(?u H G),⟨c,q1,e0,e⟩,"levels","is_list_of_few",this.2.1,?vK p3,.(by simpa using e1.symm),?h4=0\/?h4=1,fun i=>f (k+i),p.2.natAbs,?lK f k0 j,let s:=?jV;G s,?v9 p4 Rb,ls[i]?=?e9,?vO p0,.(by rw[←YA];exact ?eZ),EqAt.of_refs,?vD p0,?hF+1-?cF,kE K R vs H1,(ls:?iD),Cr O H' vs ps,Lat.ChainTo k0 k0 f,?y7 v p,bl.fin.dg.pos,iO D nm r1 D1 D2 b2,i<=xs.length,sp _ _ Ec,HT.sIx ?lC 0 lo,[a,b,c,d],"quotient",(ks j+i),let u3:TS:=?nC;?mG,(?e ?eI),?x9 Shared,["old","new",?t7],B c=none,IQ K C B p xs ls,.(show(?kD).toNat=i by omega),X.A.units+1,[?bC,?e6],⟨(Gg h).1,(Gg h).2.1⟩,?vZ p2,let u5:TS:=?rA;?rX,Reps.x s hb r,"start_of",its[j]?=?c its[j],JZ K x y H Q,?G Addr,s _ _ (fun z=>by rw[z,hb]at h;cases h) h,?bN h O9m,(N9 hq).1,?v9 S Rb,H c=?gM->((∃l,o=?A l)\/∃l,o=.dK l)->H' c=?gM,(?dE).toNat,let u6:TS:=?q4;?tK,?vK p2,0<=p/\?h2,∀x0,?eH,Ho ?a5 u,fun _=>Lat.one,Vk Jv k v,?vP p5,fun i hi=>?_,.(by simp<;>omega),?xP S x9,Gr ?dP/\Gr ?b6/\Gr ?bB,.(by have G:=F.agr ?cE;have e1:=G 0 1 b a _ _ ?cV rfl rfl gb ga;have e2:=G 0 2 c a _ _ ?cV rfl rfl gc ga;have e3:=G 1 2 c b _ _ ?cV rfl rfl gc gb),.(by rintro zs τ G1 ⟨s3,AR,hzs,_⟩;refine⟨D,_,rfl,?e ⟨.of AR,?s2⟩⟩;have s4:?u G1 (upd G1 T1 (?A zs)):=?a8 hT1),.(by obtain⟨A,ha,ga,la,ca⟩:=?pU;obtain⟨B,hb,gb,lb,cb⟩:=?n5;obtain⟨C,hc,gc,lc,cc⟩:=?c1 c ?cE),.(by refine ?s1;refine Hq (?i) ?_;exact⟨_,rfl,k _ _ (Same.refl H) hu⟩),.(by intro Ac s σ H xs us Q I r h;obtain⟨a,vs,rfl,ha,q⟩:=h;obtain⟨u,v,rfl,rx,rt⟩:=Xo r;cases rt;cases rx),.(by have l1:=rv.length;have l2:=DZ.length;have ea:vs[j]?=?w1 vs j:=?u5),∀{O H:Hp}{vs:?f}{lf:?aL}{c:Addr}{m:Ms}(h:?nV)(e0:?cJ)(e:?y5 c m),a,∀{xs:At}(hs:?eN){k:Int}{v:?D}(h0:?wF v),a,∀{Ac:Bj}{σ:St}{H:Hp}{s:Shared}{vs ws:?f}{its its':?dX}(I:?l9),a,.(by show Gr ?iC;split),.(by exact ?e (?k ⟨o,?tQ⟩)),.(by have hi2:=?sB;rw[qc3,qo4]at hi2;have ei:?o9:=O9m),∀(s:∀c o,?cJ->?tU),a,.(by obtain⟨u,eu,ru⟩:=rv.get ea;obtain⟨u',eu',NI⟩:=DZ.get eb),.(by rw[qc2,qc2]at h2;exact JG (qc8 h2.1.1) (qc8 h2.1.2) (qc8 h2.2)),.(by subst ei;rw[?hU,qh8]at e1;rw[h0,?hU,qh8]at e2),.(by exact ?e (?e (?tQ))),.(by have hl:(?dF).length=?bY:=?iX),.(by unfold uO;exact qd9.mpr ⟨?hQ,?kG,O9m⟩),.(by refine(?w6 pr)),.(by have h1:=qe1.mp hcb r hr;unfold Mq at h1;rw[qc2]at h1),.(by intro j h1 h2;have dJ:j<its.length:=?M),.(by obtain⟨a,vs,rfl,hq,hr⟩:=h;obtain rfl:u=?s:=r),.(by have eb:ws[j]?=?w1 ws j:=?u5),∀(j:Nat) (h1:j<its.toArray.size) (h2:j<its'.toArray.size),a,.(by unfold Mc;rw[qe1];intro j hj;rw[qe1];intro i hi),.(by exact ?e (?k ⟨q,?l2⟩)),.(by have ne:b≠D:=fun z=>by rw[z,hD]at h;cases h),∀{O H H':Hp}{vs:?f}{lf:?aL}(h:?nV),a,.(by have hz:z<=40:=?r4),∀{xs:At}(Jv:?dZ)(k:Int)(v:?D),a,∀{X:Cx}{J:XJ}{j k:Nat}{C:Addr}{ps:?j},a,∀{e o:Expr}{es:?p7}{ta:TE}{t:TA},a,∀{X:Cx}{Ac:Bj}{σ:St}{H:Hp}{s:Shared},a,∀(rv:Vals vs its)(DZ:Vals ws its'),a,∀{prog:Program}{w:World}{A:Around},a,@(Ar t2 (Ar t3 (Ar t4 (Ar t5 ?a)))),@(?a x0 x1 x2 x3 x4 x5 x6 x7 x8 x9 ?b),@(By P w K mg ?C Ej 1 f fd ?a (?b K)),@(?a x0 x1 x2 x3 x4 x5 x6 x7 H),@(∀σ H,?a->?l),@(?a  x0 x1 x2 x3 x4 x5 x6 x7 H),@(∀σ,?a->?v),@(?c (.dK (cK ?a))),@(fun _ _ _ _=>?a),@(?aQ+sg 0*Uw (?m a.toNat []) e+sg ?a*Uw (?m b.toNat []) e),@(g x σ H fun σ1 H1=>Ar t1 ?a ?b σ1 H1),@(?a  x0 x1 x2 x3 x4 x5 x6 x7 x8 x9 H),@(?a x0 x1 x2 x3 x4 x5 x6 x7),@(Bc (Eb (K:=K)) ?iV Bz (Aa ?o (Aa ?a Ae))),@(?c (?p ?a)),@(?a xs ?b z k0 L G f l r),@(?a x0 x1 x2 x3 x4 x5 x6),@(?a x0 x1 x2 x3 x4),@(Bc (Ay (K:=K)) T.n_len qh0 (Aa ?a Ae)),@(A0->A1->A2->A3->A4->A5->A6->A7->?a),@((?m (?hD).toNat []).getD i 0=(?m (?fW).toNat []).getD (j-1) ?a),@(mg ?a=none),@(?a xs ?aB (zs j) (ks j) (Ls j) (Gs j) (fs j) (lp j) (rp j)),@(?a  x0 x1 x2 x3 x4 x5 x6 x7 x8 H),@(?a  x0 x1 x2 x3 x4 x5 H),@(upd H L0 (?A [?aX,?d 1,?d ?a])),@(⟨h.1,fun i v ps e1 e2=>let ⟨a,us,e,?a,h1,h2⟩:=?mU;?b⟩),@(?a  x0 x1 x2 x3 H),@(?a (l:=C) (by unfold lev at lc;simp at lc;omega)),@(?c (?a[?b]' ?aN)),@(?a  x0 x1 x2 H),@(Av (i:=?a) ?cS ?b),@(fun r hr=>by rw[qq2]at hr;subst hr;exact ?a),@(A0->A1->A2->A3->A4->A5->A6->A7->A8->A9->?a),@(⟨?a,_,rfl,?eZ,rfl,_,_,rfl,_,_,rfl,rfl,?_⟩),@(⟨_,rfl,?a,_,_,_,rfl,rfl,?b,rfl,rfl,_,rfl,?_⟩),@(∀H',?I->Q ?a H'),@(wF φ ?a),@(show ObjOk ?k1 X.w H ?hR a ?a from ?nK),@(Di (?m ?a []).length=k),@(Ba (Bd (K:=K)) ?o (Ba ?aY ?z ?a ?Z) ?Z),@(A0->A1->A2->A3->A4->A5->A6->A7->A8->?a),@(Q8 K ?a tp nm r1 D1 D2 b2 n w k f l r),@(∀x,x<?lD->?oB ?a5 (Qj xs k) ?a x=0),@(mg ?a=?lT/\∀H,Dl K H a ((?b:?q).map ?Y)),@(by rw[Aj ?a];exact h1),@(SqL K H ?a ?b),@(?k (?k (?k (?a rfl)))),@(?a  x0 x1 H),@(?a (K:=K) ?x T.n_zip (Aa ?b (Aa ?aE Ae))),@(φ (?aO)*Bu ?a (?aO)),@(k x0 x1 x2 x3 x4 x5 ?a h0 h1 h2 h3),@(fun σ' H'=>σ'=[rS c,?c ?a]/\H=H'),@(Ar t1 (Ar t2 ?a) ?b σ H),@(?aP z ?a ?aC ?b),@((?a _ _ _).length<=_),@(?a (by rw[Bv];omega)),@(?a  x0 x1 x2 x3 x4 H),@(upd H D (?p ?a)),@(g x σ H fun σ1 H1=>t1 ?a σ1 H1),@(⟨h.1,fun i v e=>let ?pJ:=?rG;?a⟩),@(OpR X (compareOp .NotEq) (nK ?a)),@(Ij fun o1 o2=>τ=?a),@(H ?a=?c (?A [?d p.1,?s,?aK,?bA])),@(?P ?a ?Q),@(∀[?uW],EqAt ?a s ?gT ?hN true),@(?a x0 x1 x2),@(⟨_,rfl,_,_,d,rfl,?a ?b,hx,_,rfl,?_⟩),@(⟨_,rfl,?a,rfl,?b,?bS⟩),@(fs.length=?a),@(W2 xs k ?a),@(Es fun o=>τ=[o,?a ?b]),@(?i8 (i:=?a) ?b O9m O9m),@(?a->Prop),@(?a x0 x1 x2 x3),@(?a ?cU ?cD (Bu ?cU ?cD+e9 n j)),@(⟨?a,rfl,?aJ,rfl⟩),@(show ?a=?b from h),@(qm4 (?a i j hi hj) (?b j c hj hc)),@(cT ?a ?b id hD mR),@(Rep K H ?a ?b),@(M1 xs ?a ls z L G),@(Bf ?a ?b Ak ?aT),@(?l4 n p ?a x y ?b u v),@((?a:?f)[i]?=?c ?b),@(?a (?b xs ms i) _ _ _),@(Ar t1 (?v8 (Ar t6 (Ar t7 (Ar t8 ?a)))) D σ H),@(g x σ H fun σ1 H1=>Ar t1 ?a D σ1 H1),@(⟨_,(Ai (Bb ?a)),?_⟩),@(?a x0 x1 x2 x3 x4 x5 x6 x7 x8 ?b),@(?a x0 x1 x2 x3 H),@(?a x0 x1 x2 H),@(?a x0 x1 x2 x3 x4 x5 H),@(?a x0 x1 x2 x3 x4 ?b),@(∀(D:Addr) (H':Hp),?b9->?I->?cK=?vM ?a->?bM),@(?a x0 x1 H),@(Ba ?aY ?a Ak ?Z),@(?a D=?vM ?b),@(Ar t1 ?a ?b σ H),@(Dp (vs=[v]) (LT K H v xs) ?gQ ?bX ?a),@(Cj (Ku (K:=K)) ?x ?p4 Je (Aa ?a Ae)),@(?a fun p=>if ?cI then(p.1,v) else p),@(B6 (p0) (p1) (p2) ?a),@(?vH 1+sg 2*Uw (?m c.toNat []) ?a),@(Es fun x0=>E4 ?aW ?a ?b),@(H ?a=?vF ?b),@(D7 (Aa ?a (Aa Ak (Aa Ak Ae)))),@(h.2 i ?a ?b e1 e2),@(?a[i]?=?w1 ?b i),@(?a->?x9 ?b),@(Dy (K:=K) (n:=2) ?x (Bm (Ap (i:=0) ?a) (Bm ?b Dx))),@(fun i zs τ G1=>B6 (?u G G1) (?xX G1 zs) (zs=(?a:?f).take i) ?b),@(Ar t9 (Ar MP (Ar uQ ?a))),@(Ai (Bb ?a)),@(fun vs H Q _=>Ij fun ?i0 ?B=>?xZ ?a),@(Ar t6 (Ar t7 ?a)),@(Ci ?x ?kH (Aa ?a Ae)),@(Ap (i:=?a) ?b)])
inductive kE[?r](R:It->?H)[?fF](H1:Hp):Prop
 | mk:∀a,?i5->((∃xs,?mJ))->(R (?iA) H1)->?sW
noncomputable def XZ[?r](ta:TA):TI:=fun σ H R=>ta σ H fun vs H1=>?sW
theorem Vl:bootBuiltins ?dG=?c (.type ?dG):=?i
theorem nU{X:Cx}[?a2]{es:?p7}{x1:Nat}{tpos:Pos}{a:Expr}{ta:TA}{p pos:Pos}(hg:Gl X ?dG)(hm:X.mg ?dG=none)(ha:PA X [a] ta)(hK:X.K=K:=by rfl)(hs:starEach [a] X.env=[(false,eval a X.env)]:=by rfl):PI X (.Tuple es x1 tpos) (.Call (.Name ?dG p) [a] [] pos) (XZ K ta):=by
 subst hK;intro Ac s σ H R I h;refine Call_ (L1 I hg hm Vl (qg5 (Df (ha pos Ac s σ H _ I h) fun us s1 _z=>?_) hs rfl));obtain⟨vs,H1,I1,r1,q1⟩:=_z;obtain⟨l,e,⟨xs,hq⟩,q⟩:=q1;subst e;cases r1 with
 | cons r rr =>
   cases rr;cases r;obtain⟨its,rv,pl,hz⟩:=I1.tuple hq;refine iH (show s1.heap.IsTuple l ?qI from pl) fun h' hen hit hsz hk=>?_;refine qt0 hen ⟨?p8,[?p8,s1.heap.objs.size],_,_,H1,rfl,I1.kept (t':=s1.toks) hk,gC l _ _ (qs6 _),⟨⟨_,hen⟩,hit⟩,fun b hb=>?_,q⟩
   have lb:s1.heap.objs.size<=b:=by
    rcases qb9.mp hb with rfl | hb
    . exact qm8 _
    . have z:b=s1.heap.objs.size:=by simpa using hb
      rw[z];exact ?bI
   exact I1.fpOk lb (I1.hok.fresh lb)
section
variable{g:TG}{tc:TT}{te:TE}{D:Addr}{Q:?H}{τ:St}{H:Hp}
theorem LU[?a2][?m7]{g:TG}{tb:TS}{D:Ends}{σ:St}{H:Hp}(Pv:?hA)(h0:Pv 0 σ H)(hl:∀i σ H,?t3->?jU->?mP)
 (hs:∀i x σ H p,xs[i]?=?c x->?jU->H p=none->g (?hS) σ (upd H p (?A [?bQ,x])) fun σ2 H2=>tb { D with nx:=?l7,ct:=?l7,bk:=D.nx } σ2 H2) (hd:∀σ H,Pv ?b5 σ H->?pA) :
 ∃W:Nat->?hA,(∃m,W 0 m σ H)/\∀i m σ H,W i m σ H →
   ((?iA).stop i H/\?pA)\/((?iA).go i H/\∃N:?fQ,(∀σ' H',N σ' H'->∃m',m'<m/\W ?bP m' σ' H')/\∀x H',(?iA).yld i H x H'->g x σ H' fun σ2 H2=>tb { D with nx:=N,ct:=N,bk:=D.nx } σ2 H2):=by
 refine⟨fun i m σ H=>m=xs.length-i/\?t3/\?jU,⟨?b5,?aM,?cZ,h0⟩,?_⟩;rintro i m σ H ⟨rfl,hi,pp⟩;have q:=hl i σ H hi pp;by_cases hlt:i<xs.length
 . refine ?k ⟨⟨xs,xs[i],q,by simp[hlt]⟩,?l7,fun σ' H' p'=>⟨xs.length-?bP,O9m,rfl,hlt,p'⟩,fun x H' y=>?_⟩;obtain⟨p,v,hp,rfl,rfl,y⟩:=y;exact hs i v σ _ p (y xs q) pp hp
 . have e:i=xs.length:=O9m
   subst e;exact ?e ⟨⟨xs,q,?bI⟩,hd σ H pp⟩
universe e9
universe L2
namespace Hb
noncomputable def F1[?fC](f:Int):?D
 | 0=>0
 | i+1=>if ?dB=f then ?qX+1-?cF else ?qX
noncomputable def Uw[?fC](f:Int):Int:=F1 fs f ?gC
noncomputable def xX(x e:Int):Int:=if x=e then 1 else 0
theorem sO(e:Int):Uw [] e=0:=rfl
theorem JD(x y e:Int):?jG=?nO:=by
 show(if y=e then(if x=e then ?aQ+1-2*((?hZ:Int)%2) else 0)+1-2*(((1:Nat):Int)%2) else(if x=e then ?aQ+1-2*((?hZ:Int)%2) else 0))=_;unfold xX;split<;>split<;>simp_all
theorem jD(x y z e:Int):Uw [x,y,z] e=?nO+xX z e:=by
 show(if z=e then ?jG+1-2*(((2:Nat):Int)%2) else ?jG)=_;rw[JD];unfold xX;split<;>simp_all<;>omega
theorem tF{l:?q}(h:l.length=2):∃a b,l=[a,b]:=by
 match l,h with
 | [a,b],_=>exact⟨a,b,rfl⟩
theorem OS{l:?q}(h:l.length=3):∃a b c,l=[a,b,c]:=by
 match l,h with
 | [a,b,c],_=>exact⟨a,b,c,rfl⟩
theorem A20{l:?q}(h:l.length=4):∃a b c d,l=?t6:=by
 match l,h with
 | ?t6,_=>exact⟨a,b,c,d,rfl⟩
noncomputable def sg(i:Nat):Int:=1-?cF
theorem Ac2[?f9]{k:Nat}{q:?q}(hq:xs[k]?=?eR)(e:Int):Am (fun i=>sg i*Uw (?m (q.getD i 0).toNat []) e) q.length=0:=by
 have F:=hs k q hq
 have face:∀f∈q,∃p,?lI=p/\(xs.take k)[f.toNat]?=?gP/\lev p+1=lev q/\(p.length=0\/p.length=2\/p.length=3\/p.length=4):=by
  intro f hf;obtain⟨p,hp,hl⟩:=F.bel f hf
  have hp2:?rI=?gP:=by
   rw[qn6]at hp;split at hp
   . exact hp
   . cases hp
  exact⟨p,by rw[qa7,hp2];rfl,hp,hl,(hs _ _ hp2).cnt⟩
 rcases F.cnt with h | h | h | h
 . rw[h];rfl
 . obtain⟨a,b,rfl⟩:=tF h;obtain⟨A,ha,_,la,ca⟩:=?pU;obtain⟨B,hb,_,lb,cb⟩:=?n5;have za:A=[]:=by ext m2;apply List.eq_nil_of_length_eq_zero;omega
   have zb:B=[]:=by ext m3;apply List.eq_nil_of_length_eq_zero;omega
   subst za zb;show ?vH 1=0;rw[ha,hb,sO];simp
 . obtain⟨a,b,c,rfl⟩:=OS h;ext uA;obtain⟨a0,a1,rfl⟩:=tF (l:=A) (by ext m2;omega);obtain⟨b0,b1,rfl⟩:=tF (l:=B) (by ext m3;omega);obtain⟨c0,c1,rfl⟩:=?w0 tF;ext u8;simp at e1 e2 e3;subst e1 e2 e3;show ?y3 e=0;rw[ha,hb,hc,JD,JD,JD];simp[sg];omega
 . obtain⟨a,b,c,d,rfl⟩:=A20 h;ext uA;obtain⟨D,hd,gd,ld,cd⟩:=?c1 d ?cE;obtain⟨a0,a1,a2,rfl⟩:=OS (l:=A) (by ext m2;omega);obtain⟨b0,b1,b2,rfl⟩:=OS (l:=B) (by ext m3;omega);obtain⟨c0,c1,c2,rfl⟩:=?w0 OS;obtain⟨d0,d1,d2,rfl⟩:=OS (l:=D) (by unfold lev at ld;simp at ld;omega);ext u8;have e4:=G 0 3 d a _ _ ?cV rfl rfl gd ga;have e5:=G 1 3 d b _ _ ?cV rfl rfl gd gb;have e6:=G 2 3 d c _ _ ?cV rfl rfl gd gc;simp at e1 e2 e3 e4 e5 e6;subst e1 e2 e3 e4 e5 e6;show ?y3 e+sg 3*Uw (?m d.toNat []) e=0;rw[ha,hb,hc,hd,jD,jD,jD,jD];simp[sg];omega
universe Hb
namespace Hb
open PySem L2
noncomputable def e9(n:Int)(i:Nat):Int:=if ?h4=0 then n else -n
noncomputable def Gz(ms:Ms)[?b1]:?fR
 | 0=>ms
 | i+1=>?k8
noncomputable def IL(ms:Ms)[?b1]:Ms:=Gz ms fs n ?gC
theorem aS(ms:Ms)[?fC](n k:Int):∀i,Bu ?bV k=?a7+?hF*n
 | 0=>by simp[Gz,F1]
 | i+1=>by
   show Bu (?k8) k=_;rw[jO,aS ms fs n k i];show _=?a7+(if ?dB=k then ?sV else ?hF)*n;by_cases h:k=?dB
   . rw[?gK,?j2]
     have e:?d7=(1-?cF)*n:=by
      unfold e9;have:?sK:=O9m
      rcases this with z | z
      . rw[?g3,z];simp
      . rw[?y ?E,z];omega
     rw[e,show ?sV=?hF+(1-?cF) by omega,qs4];omega
   . rw[?d6,?qN]
theorem Yx[?fB][?b1]:∀i,nd ?bV
 | 0=>h
 | i+1=>oM (Yx h fs n i) _ _
theorem EM{ms:Ms}(h:nz ms)[?b1]:∀i,nz ?bV
 | 0=>h
 | i+1=>oE (EM h fs n i) _ _
theorem U1(ms:Ms)[?b1]:∀i,(?gD).length<=ms.length+i
 | 0=>?bI
 | i+1=>by
   have h1:=U1 ms fs n i;have h2:=BZ ?bV ?eO (?d7);show ?wR Jf;omega
noncomputable def Mq(xs:At)(k p n:Int):Bool:=Dg xs (?fL) k&&?t (¬n=0)
noncomputable def N8[?K](ms:Ms):Bool:=ms.all fun p=>Mq xs k p.1 p.2
noncomputable def K3[?b2]:?fR
 | 0=>[]
 | i+1=>IL ?bG ?gB ?gF
noncomputable def Dz[?b2]:Ms:=K3 xs ms ?l3
theorem aL[?dJ](ms:Ms):∀i,(?hW).length<=4*i
 | 0=>?bI
 | i+1=>by
   have h1:=aL h4 ms i;show ?wR IL;unfold IL;have h2:=U1 ?bG ?gB ?gF ?dR
   have h3:?dR<=4:=by
    rcases I0 (l:=xs) (i:=?pZ) (d:=[]) with z | z
    . exact h4 _ z
    . rw[z];exact ?cZ
   omega
theorem EB{xs:At}{p l:Int}(h:Dg xs (?fL) l=true):?tY:=by
 have h':(?t (0<=p)&&?t (?h2)&&?t (Di ?hJ=l))=true:=h;rw[qc2,qc2]at h';exact⟨qc8 h'.1.1,qc8 h'.1.2⟩
noncomputable def M4(b:Addr)(H H1:Hp):Prop:=∀c q,c≠b->?oS
section
variable[?a2]{H H1:Hp}{b:Addr}{m:?G (Key × V)}
theorem SqL.x[?iK][?m7](h:?wI a xs):SqL K H1 a xs:=by
 rcases h with(h|⟨o,h⟩) | h
 . ext uO
 . ext uI
 . exact ?i7
theorem Dl.x[?iK][?m7](h:?mP):?mJ:=by
 rcases h with(h|⟨o,h⟩) | h
 . ext uO
 . ext uI
 . exact ?i7
mutual
theorem Rep.x[?iK]{v:V}{d:L2.D}(h:?xG v d):Rep K H1 v d:=by
 cases d with
 | non=>exact h
 | bl b=>exact h
 | int i=>exact h
 | str x=>exact h
 | tup ds =>
   obtain⟨a,vs,e,q,r⟩:=h;exact⟨a,vs,e,Dl.x s hb q,?tL⟩
 | lst ds =>
   obtain⟨a,vs,e,q,r⟩:=h;exact⟨a,vs,e,SqL.x s hb q,?tL⟩
theorem Reps.x[?iK][?dN]{ds:?G L2.D}(h:Reps K H vs ds):Reps K H1 vs ds:=by
 cases ds with
 | nil=>exact h
 | cons d r =>
   obtain⟨v,q,e,h1,h2⟩:=h;exact⟨v,q,e,Rep.x s hb h1,Reps.x s hb h2⟩
end
universe e9
section
variable[?r]
noncomputable def Xx:Sp:=fun vs H Q _=>z8 fun ?bU ?B (k p n:Int)=>E4 (vs=[?s,?bK,?fL,?aX]) ?N (Q (.bl (Mq xs k p n)) H)
noncomputable def Vx:Sp:=fun vs H Q _=>z8 fun ?b8 ?B ?W ?b7=>Dp (vs=[?s,?bK,?aK]) ?N ?dY ?hG (?w8 (.bl (N8 xs k ms)))
noncomputable def Fs:Sp:=fun vs H Q _=>z8 fun ?b8 ?B (n:Nat) ?b7=>K8 (vs=[?s,?aK,?d ?aR]) ?N ?dY ?hG (n<=100) (?w8 (.bl ((?bT n).any fun(k:Nat)=>?pN)))
noncomputable def Sr:Sp:=fun vs H Q _=>z8 fun ?bU ?i0 ?b7 (fs:?q) ?aR=>Dp (vs=[?s,v,?aX]) (H a=?c ?c8) (TI K H v fs) (ms.length+fs.length<=100000) (∀H',M4 a H H'->H' a=?vF (IL ms fs n)->?lO)
noncomputable def AD:Sp:=fun vs H Q _=>T7 fun ?b8 ?B ?b7=>M9 ?gU ?N ?dY ?hG ?g1 ((∃k:Nat,k<4/\?pN=true)) (oG H ?dC Q)
universe e9
universe Hb
namespace Hb
open PySem L2
noncomputable def wF[?L](ms:Ms):Int:=(?X fun p=>p.2*?eM).sum
theorem FZ[?L]:?w9 []=0:=rfl
theorem Gd[?L](p:?aA)(ms:Ms):?w9 (?aS)=p.2*?eM+?U:=by
 unfold wF;rw[qe0,List.sum_cons]
theorem Zj(k:Int):Bu [] k=0:=rfl
theorem iV[?L](k:Int):∀{ms:Ms},?aU->?w9 (?fU)=?U-?a7*φ k
 | [],_=>by show ?aQ=0-Bu [] k*φ k;rw[Zj];simp
 | ?aS,h=>by
   ext iL;have ih:=iV φ k (ms:=ms) h.2;rw[Ig,Gd];by_cases e:?cI
   . rw[?bO];have hd:?pM=?fU:=by unfold Hs;rw[qs2 (?fT)]
     have hg:?a7=0:=Jb (by rw[←e];exact h.1);rw[hd,ih,hg,←e,qk7];omega
   . rw[?cM];have hd:?pM=p::?fU:=by unfold Hs;rw[qs1 (?fT)]
     rw[hd,Gd,ih];omega
theorem P4[?L](as bs:Ms):?w9 (as++bs)=?w9 as+?w9 bs:=by
 unfold wF;rw[qb5,List.sum_append]
theorem MV[?L](k v:Int):∀{ms:Ms},?aU->k∈?X (·.1)->?w9 (?y1 ?X)=?U+(v-?a7)*φ k
 | [],_,h=>by simp at h
 | ?aS,h,hk=>by
   ext iL;rw[qe0,Gd,Gd,Ig];by_cases e:?cI
   . rw[?bO,?bO]
     have same:(?y1 ?X)=ms:=by
      conv=>rhs;rw[←?n0 ms]
      apply qu6;intro q hq;have:¬q.1=k:=fun z=>h.1 (by rw[e,←z];exact qk8 (f:=(·.1)) hq);rw[?y ?cC];rfl
     rw[same,e,Int.sub_mul];show v*φ k+?U=_;omega
   . rw[?cM,?cM]
     have hk2:k∈?X (·.1):=by
      rw[qe0,qb9]at hk;rcases hk with z | z
      . exact ?bN ?lQ e
      . exact z
     rw[MV φ k v h.2 hk2];omega
theorem wG[?L][?fB](k v:Int):?w9 (putI ms k v)=?U+(v-?a7)*φ k:=by
 by_cases hk:k∈?X (·.1)
 . unfold putI;rw[?F (Xl.mpr hk),MV φ k v h hk]
 . rw[put_new hk,P4,Jb hk,Gd,FZ];simp
theorem WG[?L][?fB](k n:Int):?w9 (?o7)=?U+n*φ k:=by
 unfold Jf;split
 . rename_i e
   rw[iV φ k h];have:?a7=-n:=O9m
   rw[this,qn0];omega
 . rw[wG φ h,show ?gH-?a7=n by omega]
theorem dN[?L][?fB][?b1]:∀i,?w9 ?bV=?U+n*Am (fun j=>sg j*φ ?cD) i
 | 0=>by show ?U=?U+n*0;simp
 | i+1=>by
   show ?w9 (?k8)=?U+n*(?jF+sg i*φ ?eO);rw[WG φ (Yx h fs n i),dN φ h fs n i,Int.mul_add]
   have e:?d7=n*sg i:=by
    unfold e9 sg;have:?sK:=O9m
    rcases this with z | z
    . rw[?g3,z];simp
    . rw[?y ?E,z];omega
   rw[e,qf6];omega
theorem Pl[?b2]:∀i,nd ?bG
 | 0=>List.nodup_nil
 | i+1=>?xL Yx Pl
theorem Yu[?b2]:∀i,nz ?bG
 | 0=>fun p hp=>by cases hp
 | i+1=>?xL EM Yu
noncomputable def face(xs:At)[?L](p:Int):Int:=Am (fun j=>sg j*φ ((?kI).getD j 0)) ?hJ
theorem DM[?L][?b2]:∀i,?jA->?w9 ?bG=wF (?c1 xs φ) (ms.take i)
 | 0,_=>rfl
 | i+1,h=>by
   show ?w9 (IL ?bG _ _)=_;unfold IL;rw[dN φ (Pl xs ms i),DM φ xs ms i ?E,qo1,?jO,P4];ext lW
   rw[e];show _+_=_+wF _ [?h3];rw[Gd,FZ];unfold face;omega
theorem IV[?L][?b2]:?w9 ?dC=wF (?c1 xs φ) ms:=by
 unfold Dz;rw[DM φ xs ms _ ?c4,qd2]
noncomputable def yT(e k:Int):Int:=if k=e then 1 else 0
theorem UN(e:Int):∀{ms:Ms},?aU->wF ?kY ms=Bu ms e
 | [],_=>rfl
 | ?aS,h=>by
   ext iL;rw[Gd,Ig,UN e h.2];unfold yT;by_cases z:p.1=e
   . rw[?g3,?g3,Jb (by rw[←z];exact h.1)];omega
   . rw[?y z,?y z];omega
theorem tV(xs:At)(e p:Int):?c1 xs ?kY p=?cW:=by
 have:∀[?fC] (i:Nat),Am (fun j=>sg j*yT e ?cD) i=?a4:=by
  intro fs i
  induction i with
  | zero=>rfl
  | succ i ih =>
    show ?jF+sg i*yT e ?eO=?nS
    rw[ih];unfold yT sg;ext cB
 exact ?cC _ _
theorem Tk{xs:At}{ms:Ms}(e:Int):?nN=wF (fun p=>?cW) ms:=by
 have h:=UN e (Pl xs ms ?l3);change wF ?kY ?dC=?nN at h;rw[←h];rw[IV];unfold wF
 congr 1
 apply qu6;intro p _;rw[tV]
theorem iU{φ:?jE}:∀{ms:Ms},(∀p∈ms,?eM=0)->?U=0
 | [],_=>rfl
 | ?aS,h=>by
   rw[Gd,h p (qe2 ..),iU fun q hq=>h q (qc5 _ hq)];simp
theorem MI[?f9]{ms:Ms}(hin:∀p∈ms,?fO/\p.1<?c0):?s7=[]:=by
 have z:∀e,Bu (?s7) e=0:=by
  intro e;rw[Tk,IV];refine iU ?d3;obtain⟨h0,h1⟩:=hin p hp
  have hq:xs[?hQ]?=?c (?hP):=by
   ext f7;rfl
  unfold face;exact Ac2 hs hq e
 have hn:=Pl xs (Dz xs ms) (Dz xs ms).length;have hz:=Yu xs (Dz xs ms) (Dz xs ms).length;change nd (Dz xs (Dz xs ms)) at hn;change nz (Dz xs (Dz xs ms)) at hz;cases e:Dz xs (Dz xs ms) with
 | nil=>rfl
 | cons p r =>
   rw[e]at hn hz;have h1:=F7 hn (qe2 (a:=p) (l:=r));have h2:=z p.1;rw[e]at h2;unfold Bu at h2;rw[h1]at h2;exact ?bN h2 (hz p (qe2 ..))
noncomputable def Ai0(n:Nat)(k:Int):Bool:=?t (?aR=k+1) || (?t (k=0)&&?t (n=0))
noncomputable def spN[?K]:Nat->?q
 | 0=>[]
 | i+1=>if Ai0 (?m i []).length k=true then ?mZ++[?cT] else ?mZ
noncomputable def spots[?K]:?q:=spN xs k ?b5
theorem gA[?L]:∀ms:Ms,?w9 (Fk ms)=?U
 | []=>rfl
 | ?aS=>by
   have ih:=gA φ ms;unfold Fk at ih ⊢;by_cases z:p.2=0
   . rw[qs2 (?kN),ih,Gd,z];simp
   . rw[qs1 (?kN),Gd,Gd,ih]
structure Part(xs:At)(need:Nat)(p:?q):Prop where
 ok:∀f∈p,0<=f/\f<?c0/\?pO=need
 agr:0<need->∀i j:Nat,i<j->?rC->?vS 0
section
variable[?r]
universe e9
theorem eT{ms:Ms}{k n:Int}{q:?aA}(h:q∈?o7):q∈ms\/q=(k,?gH):=by
 unfold Jf at h;split at h
 . exact ?e ?qM
 . exact BW h
theorem Y7{ms:Ms}{fs:?q}{n:Int}:∀{i:Nat},i<=fs.length->∀q∈?gD,q.1∈?X (·.1)\/q.1∈fs
 | 0,_,q,h=>?e (qk8 (f:=(·.1)) h)
 | i+1,hi,q,h=>by
   rcases eT h with z | z
   . exact Y7 O9m q z
   . subst z;refine ?k ?_;show ?dB∈fs;ext f7;exact ?bW
theorem AM{xs:At}{ms:Ms}:∀{i:Nat},?jA->∀q∈?hW,∃p∈ms,q.1∈?hP
 | 0,_,q,h=>?g4
 | i+1,hi,q,h=>by
   ext lW
   rcases Y7 ?c4 q h with z | z
   . obtain⟨r,hr,er⟩:=?V z;obtain⟨p,hp,hq⟩:=AM O9m r hr;exact⟨p,hp,by rw[←er];exact hq⟩
   . exact⟨?h3,?bW,by rw[←e];exact z⟩
theorem FO{ms:Ms}{fs:?q}{n:Int}{M:Nat}(hm:∀p∈ms,?sM<=M):∀(i:Nat),∀q∈?gD,?o1<=M+?k9
 | 0,q,h=>by have:=hm q h;simp;exact this
 | i+1,q,h=>by
   have ih:=FO hm i (fs:=fs) (n:=n);have e:?bP*n.natAbs=?k9+n.natAbs:=Nat.succ_mul ..;rcases eT h with z | z
   . have:=ih q z;omega
   . subst z;have hs:(?d7).natAbs=n.natAbs:=by unfold e9;ext cB
     have hg:(?mB).natAbs<=M+?k9:=by
      unfold Bu;cases e2:lookI (Gz ms fs n i) (fs.getD i 0) with
      | none=>simp
      | some v=>exact ih _ (Ka e2)
     show(?mB+?d7).natAbs<=_;omega
theorem fO[?dJ]{ms:Ms}{B:Nat}(hb:∀p∈ms,?sM<=B):∀{i:Nat},?jA->∀q∈?hW,?o1<=i*(4*B)
 | 0,_,q,h=>?g4
 | i+1,hi,q,h=>by
   have ih:=fO h4 hb (i:=i) O9m;ext lW
   have:=FO ih _ q h;rw[e]at this;have hB:=hb ?h3 (?bW)
   have hl:?qH<=4:=by
    rcases I0 (l:=xs) (i:=?nB) (d:=[]) with z | z
    . exact h4 _ z
    . rw[z];exact ?cZ
   have h2:?qH*ms[i].2.natAbs<=4*B:=qf0 hl hB;have e3:?bP*(4*B)=i*(4*B)+4*B:=Nat.succ_mul ..;omega
theorem Zy[?f9]{k:Int}{ms:Ms}(hm:∀p∈ms,?fO/\p.1<?c0/\Di (?hP).length=k):N8 xs (k-1) ?dC=true:=by
 refine qe1.mpr ?iY;have hz:q.2≠0:=Yu xs ms _ q hq;obtain⟨p,hp,hf⟩:=AM ?c4 q hq;obtain⟨a,b,c⟩:=hm p hp
 have hx:xs[?hQ]?=?c (?hP):=by
  ext f7;rfl
 have F:=hs _ _ hx;obtain⟨r,hr,hl⟩:=F.bel q.1 hf;have q0:=F.low q.1 hf
 have hr2:xs[?kT]?=?c r:=by
  rw[qn6]at hr;split at hr
  . exact hr
  . cases hr
 have B31:?kT<xs.length:=(?a3 hr2).1;have er:?lM=r:=by rw[qa7,hr2];rfl
 have hlr:Di ?j4=k-1:=by
  unfold lev at hl;unfold Di at c ⊢;have cr:=(hs _ _ hr2).cnt;have cp:=F.cnt;split at c<;>split<;>omega
 unfold Mq;rw[qc2];refine⟨?_,by simpa using hz⟩;show(?t (0<=q.1)&&?t (?kP)&&?t (Di (?lM).length=k-1))=true;rw[er,qf8 q0,qf8 (show ?kP by omega),qf8 hlr];rfl
universe Hb
namespace L2
open PySem PySem.Spec PyProof.Rows
universe L2
namespace Hb
open PySem L2
noncomputable def Ur[?K](n:Nat):?q:=((?bT n).filter ?s9).map fun(j:Nat)=>?aB
noncomputable def F5[?K]:?q:=Ur xs k ?b5
theorem NR[?dK]{n:Nat}(h:?wB n):?oQ=?k7++[?aR]:=by
 unfold Ur;rw[qk4,qn8,qb5,qs1 (by simpa using h)];rfl
theorem RW[?dK]{n:Nat}(h:¬?wB n):?oQ=?k7:=by
 unfold Ur;rw[qk4,qn8,qb5,qs2 (by simpa using h)];simp
theorem F4[?K](n:Nat):(?k7).length<=n:=by
 unfold Ur;rw[qa4];have:=qh9 (?s9) (?bT n);ext fA
section
variable[?r]
noncomputable def Dq:Sp:=fun vs H Q _=>Qt fun ?bU ?cT ?B=>B6 (vs=[?s,?bQ]) ?N (xs.length<=1000) (?xU ((F5 xs i).map ?Y))
universe e9
theorem belowD_of{i b:Int}(h0:0<=i)(h1:i<b):belowD (?bQ) b=true:=by
 show(?t (0<=i)&&?t (i<b))=true;rw[qf8 h0,qf8 h1];rfl
theorem SY(g:?jE)(sp:?q):?eU g=Ho ?eC (fun i=>g (?hV)):=by
 unfold Ho;apply List.ext_getElem
 . simp
 . intro i h1 h2;simp at h1;simp[h1]
theorem Z2(xs:At)(p e:Int):Bu (?hO) e=?cW:=by
 rw[Tk];show 1*?cW+0=_;omega
theorem Gg{xs:At}{k p:Int}(h:p∈?a9):0<=p/\?h2/\Di ?hJ=k:=by
 unfold F5 Ur at h;obtain⟨j,hj,rfl⟩:=?V h;have h1:=?dO hj;have h2:=?cQ h1.1;refine⟨O9m,O9m,?_⟩;rw[qe6];simpa using h1.2
theorem lE[?dJ](p e:Int):(?cW).natAbs<?jP:=by
 rw[←Z2 xs p e];unfold Bu;cases h:lookI (Dz xs [(p,1)]) e with
 | none=>decide
 | some v =>
   have hm:=Ka h;have:=fO (B:=1) h4 (ms:=?hX) (fun q hq=>by rw[qq2]at hq;subst hq;exact qa1 1) ?c4 _ hm;show v.natAbs<?jP;have h2:v.natAbs<=1*(4*1):=this;omega
theorem J9[?K]:(?a9).Nodup:=by
 unfold F5 Ur;exact List.Pairwise.map _ (fun a b h=>O9m) (?oD _ List.nodup_range)
theorem MT[?dI]:(?kQ).map (·.1)=sp:=by
 rw[show(fun x:?aA=>x.1)=Prod.fst from rfl,List.map_fst_zip ?E]
theorem FW[?dI](h:sp.Nodup):nd ?d0:=by
 unfold nd;rw[MT hl];exact h
theorem fX[?dI]{i:Nat}(hi:?k5):?d0[i]?=?c (?hV,?dQ):=by
 rw[qa0 (?eA),List.getElem_zip,qa7,qa7,?hI,?jO];rfl
theorem nJ[?dI](h:sp.Nodup):?eU (Bu (Fk ?d0))=ns:=by
 have hn:=FW hl h;apply List.ext_getElem
 . simp[hl]
 . intro i h1 h2;rw[List.getElem_map,yM hn];have hi:?k5:=O9m
   have hz:=fX hl hi;have hm:=qb0 hz;have hg:=F7 hn hm;have e1:?hV=sp[i]:=by rw[qa7,?hI];rfl
   have e2:?dQ=ns[i]:=by rw[qa7,qa0 h2];rfl
   rw[e1,e2]at hg;unfold Bu;change (?p3).getD 0=ns[i];rw[show ?p3=?c ns[i] from hg];rfl
theorem fZ[?L][?dI]:∀i,i<=sp.length->?w9 ((?kQ).take i)=Am (fun j=>φ (?i1 j 0)*ns.getD j 0) i
 | 0,_=>rfl
 | i+1,hi=>by
   rw[qo1,fX hl ?E,P4,fZ φ hl i ?E];show _+(?dQ*?nA+0)=?jF+?nA*?dQ;rw[qf4 (?dQ),qq4]
theorem PZ{xs:At}[?dI](e:Int):Bu (Dz xs (Fk ?d0)) e=Am (fun j=>Uw (?m (?i1 j 0).toNat []) e*ns.getD j 0) ?eC:=by
 rw[Tk,gA];have h:=fZ (fun p=>?cW) hl ?eC ?c4;rw[qi8 (?eA)]at h;exact h
theorem cU{sp ns:?q}{q:?aA}(h:q∈Fk ?d0):q.1∈sp/\q.2∈ns:=by
 have h1:=?qM;exact⟨(qp5 h1).1,(qp5 h1).2⟩
section
variable[?r]
noncomputable def Jg(_K:W.Frag):Sp:=fun vs H Q _=>Ij fun(i b:Int)=>B6 (vs=[?bQ,?d b]) (0<=i) (i<b) (Q ?d9 H)
noncomputable def Qv:Sp:=fun vs H Q _=>T7 fun ?b8 (sp:?q) ?b7=>Dp ?gU (?wI a (?eU ?Y)) (Rd H b ?c8) (sp.length<=1000) (?xU ((?eU (Bu ms)).map ?Y))
noncomputable def Od:Sp:=fun vs H Q _=>Qt fun ?bU ?B ?W=>M9 (vs=[?s,?bK]) ?N (xs.length<=1000) ?g1 (0<=k) (k<5) (SR H (?jD).length ?bY (fun i j=>?qR) Q)
universe e9
theorem sumN_one{sp:?q}(h:sp.Nodup){k:Int}(hk:k∈sp)(c:Int):Am (fun m=>?qA) ?eC=c:=by
 obtain⟨i,hi,e⟩:=qj0 hk
 have key:∀m,?nG->(?qA)=(if m=i then 1 else 0)*(fun _:Nat=>c) m:=by
  intro m hm;rw[qa7,qa0 hm,Option.getD_some];by_cases q:m=i
  . subst q;rw[?bO,?lL,qd5]
  . rw[?y q,if_neg,qk7];intro z;exact q ((List.getElem_inj h).mp (z.trans e.symm))
 rw[Al key,Dc,?j5]
theorem IU{sp:?q}(hs:sp.Nodup)[?L]:∀{ms:Ms},?aU->(∀p∈ms,p.1∈sp)->?U=Am (fun m=>?wM ms) ?eC
 | [],_,_=>by
   rw[FZ,Al (g:=?r9) (fun m _=>by rw[Zj,qf3]),P5]
 | ?aS,h,hk=>by
   ext iL;have ih:=IU hs φ (ms:=ms) h.2 fun q hq=>hk q (qc5 _ hq);have h1:=sumN_one hs (hk p (qe2 ..)) (?eM*p.2)
   have e:∀m,?nG->?wM (?aS)=(if ?aO=p.1 then ?eM*p.2 else 0)+?wM ms:=by
    intro m _;rw[Ig];by_cases q:?aO=p.1
    . rw[?F q.symm,?F q,q,Jb h.1,qf3,qq4]
    . rw[?y (fun z=>q ?lQ),?y q,qo5]
   rw[Gd,ih,Al e,C5,h1,qf4 p.2]
noncomputable def Qj[?K](i j:Nat):Int:=?qR
theorem JG{xs:At}{k p:Int}(h0:0<=p)(h1:?h2)(h:Di ?hJ=k):p∈?a9:=by
 unfold F5 Ur;refine qd9.mpr ⟨?j1,qi2.mpr ⟨?kG,qf8 h⟩,O9m⟩
theorem wW[?dK]{j:Nat}(hj:j<?bY):?jI∈?a9:=by
 rw[qa7,?hK];exact qe4 hj
theorem GU[?f9]{k:Int}{i j:Nat}(hj:j<(?m9).length):Am (fun m=>Qj xs k i m*Qj xs ?bF m j) ?bY=0:=by
 obtain⟨q0,q1,q2⟩:=Gg (wW hj);unfold Qj;rw[?mC];generalize (?m9).getD j 0=p at q0 q1 q2;generalize ?kB i 0=e;have hcb:=Zy hs (k:=k+1) (ms:=?hX) (?w4 ⟨q0,q1,q2⟩);rw[?mC]at hcb
 have hkey:∀r∈?hO,r.1∈?a9:=fun r hr=>by
  ext uS;have h2:(?q6&&?t (Di (?m r.1.toNat []).length=k))=true:=h1.1;ext uM
 have hbb:=MI hs (ms:=?hX) (?w4 ⟨q0,q1⟩);have hg:=Tk (xs:=xs) (ms:=?hO) e;rw[hbb,Zj,IU ?qY _ (show nd (?hO) from Pl ..) hkey]at hg;refine ?p6 (Al fun m _=>?_) hg.symm;rw[Z2]
theorem RV(xs:At):F5 xs (0-1)=[]:=by
 cases h:F5 xs (0-1) with
 | nil=>rfl
 | cons p l =>
   exfalso
   have h1:=(Gg (xs:=xs) (k:=0-1) (p:=p) (by rw[h];exact qe2 ..)).2.2;unfold Di at h1;split at h1<;>omega
theorem GC[?dJ](k:Int)(i j:Nat):?mN<?jP:=lE h4 _ _
section
variable[?r]
universe e9
noncomputable abbrev Dr[?K]:Nat:=?bY
theorem SN{fs:?q}(h:fs.length<=4)(e:Int):(Uw fs e).natAbs<=2:=by
 have key:∀i,i<=4->(i=0->?a4=0)/\(i=1->0<=?a4/\?a4<=1)/\(i=2->-1<=?a4/\?a4<=1)/\(i=3->-1<=?a4/\?a4<=2)/\(i=4->-2<=?a4/\?a4<=2):=by
  intro i
  induction i with
  | zero=>intro _;exact⟨?j3,?dD,?dD,?dD,?dD⟩
  | succ i ih =>
    intro hi;obtain⟨h0,h1,h2,h3,h4⟩:=ih O9m;have e1:F1 fs e ?bP=?nS:=rfl
    rw[e1];refine⟨?dD,?c3,?c3,?c3,?c3⟩
    . have:=h0 O9m;ext cB
    . have:=h1 O9m;ext cB
    . have:=h2 O9m;ext cB
    . have:=h3 O9m;ext cB
 have:=key ?gC h;show(F1 fs e ?gC).natAbs<=2;rcases (show ?x5 0\/?x5 1\/?x5 2\/?x5 3\/?x5 4 by omega) with z | z | z | z | z
 . have:=?gJ z;omega
 . have:=?sH z;omega
 . have:=this.2.2.1 z;omega
 . have:=this.2.2.2.1 z;omega
 . have:=this.2.2.2.2 z;omega
theorem qZ[?dJ](k:Int)(i j:Nat):?mN<=2:=by
 refine SN ?_ _;rw[qa7];cases e:xs[((F5 xs k).getD j 0).toNat]? with
 | none=>exact ?cZ
 | some x=>exact ?rJ
theorem NQ{xs:At}{k l:Int}(h:k≠l):?eT+Dr xs l<=xs.length:=by
 have nd:(?qS).Nodup:=by
  rw[qw0];refine⟨?l6,?l6,fun a ha b hb e=>h ?_⟩;have h1:=(Gg ha).2.2;have h2:=(Gg hb).2.2;rw[←h1,←h2,e]
 have sb:(?qS) ⊆ uO ?b5:=fun p hp=>by
  have:?tY:=by
   rcases ql2.mp hp with h | h
   . exact ?tI
   . exact ?tI
  unfold uO;rw[qd9];exact⟨?j1,?kG,O9m⟩
 have:=nd.length_le_of_subset sb;rw[qc3,BF]at this;exact this
noncomputable abbrev Bs:=Int × Ms × Ms × Ms
noncomputable def W2[?K](v:?D):Ms:=Fk (?f4 (?dF))
structure uL[?iF]:Prop where
 lev:Lat.Lev (?lD) ?a5 z (Qj xs k) L G
 fin:ZF z (?dU) (2 ^ kB z) ?aC (kS z (?dU)) (Lat.gT ?a5 G (Qj xs ?bF)) k0 f l r
 ch:?sZ
 kz:k0<=z
 kw:k0<=?dU
 bL:?o6
 bG:?s6
 zm:z<=?eT
noncomputable def DA[?iF](i:Nat):Bs :=
 (?bH,?x6 (?eF z l.2 L i),?lR,?mI)
noncomputable def Iq[?iF]:?aG:=(?bT z).map (?vN DA k)
noncomputable def Oi[?K][?b3]:Prop:=∃z k0 L G f l r,?vN uL k/\ps=?kJ
theorem xQ[?f9](k:Int):∀c,c<?dU->?wF (fun a=>Qj xs ?bF a c):=fun c hc x _=>GU hs hc
structure Bb6(xs:At)(n:Nat)(zs ks:Nat->Nat)(Ls Gs:Nat->Lat.Mat)(fs:?p5)(lp rp:Nat->?h5)[?bR]:Prop where
 len:ls.length=n
 z0:zs 0=?kF/\Ls 0=Lat.one/\Gs 0=Lat.one
 nx:∀j,j<n->zs ?gR=Dr xs (?aB+1)-ks j/\Ls ?gR=(fun i=>(rp j).1 ?t8)/\Gs ?gR=fun i=>(rp j).2 ?t8
 lv:∀j,j<n->?vU uL/\ls[j]?=?c (?vU Iq)
noncomputable def M1(xs:At)(n:Nat)[?bR](z:Nat)(L G:Lat.Mat):Prop:=∃zs ks Ls Gs fs lp rp,Bb6 xs n zs ks Ls Gs fs lp rp ls/\zs n=z/\Ls n=L/\Gs n=G
theorem M1.first(xs:At):M1 xs 0 [] (?kF) ?e8 ?e8 :=
 ⟨fun _=>?kF,?r9,?u1,?u1,fun _ _=>0,?r5,?r5,⟨rfl,?mD,?nR,?nR⟩,rfl,rfl,rfl⟩
noncomputable def BH[?m6](n:Nat)(a:α):Nat->α:=fun j=>if j=n then a else g j
theorem Ge[?m6](n:Nat)(a:α):BH g n a n=a:=?lL
theorem Dw[?m6]{n j:Nat}(a:α)(h:j≠n):BH g n a j=g j:=?d6
theorem M1.snoc{xs:At}{n:Nat}[?c9]{z k0:Nat}{L G:Lat.Mat}[?lZ](h:?rU)(b:?vN uL ?aR) :
 M1 xs ?e5 (ls++[?vN Iq ?aR]) (Dr xs (?aR+1)-k0) (?qZ) ?q2:=by
 obtain⟨zs,ks,Ls,Gs,fs,lp,rp,t,rfl,rfl,rfl⟩:=h;refine⟨BH zs ?e5 (Dr xs (?aR+1)-k0),BH ks n k0,BH Ls ?e5 ?qZ,BH Gs ?e5 ?q2,BH fs n f,BH lp n l,BH rp n r,⟨?_,?_,?iB,?iB⟩,Ge ..,Ge ..,Ge ..⟩
 . rw[qc3,t.len];rfl
 . rw[?hT,?fJ,?fP];exact t.z0
 . by_cases e:j=n
   . subst e;rw[Ge,Ge,Ge,Ge,Ge];exact ?mD
   . rw[?hT,?o2,?fJ,?fP,?rN];exact t.nx j O9m
 . by_cases e:j=n
   . subst e;rw[?hT,?fJ,?fP,Ge,Ge,Ge,Ge];exact⟨b,by rw[qd6 (by rw[t.len];exact ?bI),t.len,qh8];rfl⟩
   . rw[?hT,?fJ,?fP,?o2,Dw fs _ e,Dw lp _ e,?rN];obtain⟨h1,h2⟩:=t.lv j O9m;exact⟨h1,by rw[qd1 (by rw[t.len];omega)];exact h2⟩
theorem M1.lev{xs:At}{n:Nat}[?c9]{z:Nat}{L G:Lat.Mat}(h:?rU):∀(j:Nat) ps,ls[j]?=?e9->Oi xs ?aB ps:=fun j ps e=>by
 obtain⟨zs,ks,Ls,Gs,fs,lp,rp,t,_⟩:=h;have hj:=(?a3 e).1;rw[t.len]at hj;obtain⟨h1,h2⟩:=t.lv j hj;rw[h2]at e;cases e;exact⟨_,_,_,_,_,_,_,h1,rfl⟩
universe Hb
namespace L2
open PySem PySem.Spec PyProof.Rows
mutual
def qY:D->PyData
 | ?d9=>?g9
 | .bl b=>?iP
 | ?bQ=>?bQ
 | ?h1=>?h1
 | ?jM=>.tuple ?e1
 | ?lB=>.list ?e1
 def toPDs:?G D->?G PyData
 | []=>[]
 | d::ds=>qY d::?oZ
 end
section
variable[?v5]
mutual
theorem NJ(I:?l9):∀(d:D) {v:V}{u:Value},Rep X.K H v d->RelV v u->∃as,Reads ?hR u (qY d) as
 | ?d9,v,u,h,r=>by
   cases (?xD v ?d9);obtain rfl:u=?g9:=r;exact⟨_,?g9⟩
 | .bl b,v,u,h,r=>by
   cases (show v=.bl b from h);obtain rfl:u=?iP:=r;exact⟨_,?iP⟩
 | ?bQ,v,u,h,r=>by
   cases (?xD v ?bQ);obtain⟨t,rfl⟩:=r;exact⟨_,?d i t⟩
 | ?h1,v,u,h,r=>by
   cases (?xD v ?h1);obtain⟨t,rfl⟩:=r;exact⟨_,.str x t⟩
 | ?jM,v,u,h,r=>by
   ext uU;obtain⟨its,rv,p,hz⟩:=?jK hq;obtain⟨o,ho,hc,n,hd⟩:=(show s.heap.IsTuple a ?qI from p)
   obtain⟨as,ra⟩:=?nZ;exact⟨as,.tuple ho hc hd (by simpa using ra)⟩
 | ?lB,v,u,h,r=>by
   ext uU;obtain⟨its,rv,p,hz⟩:=?jY hq;obtain⟨o,ho,hc,n,hd⟩:=p.isList;obtain⟨as,ra⟩:=?nZ;exact⟨a::as,.list ho hc hd (by simpa using ra)⟩
theorem readsAll_of(I:?l9):∀(ds:?G D) [?dN]{us:?dX},Reps X.K H vs ds->Vals vs us->∃as,ReadsAll ?hR us ?e1 as
 | [],vs,us,h,r=>by
   cases (?xD vs []);cases r;exact⟨_,.nil⟩
 | d::ds,vs,us,h,r=>by
   obtain⟨v,q,rfl,hv,hq⟩:=h;cases r with
   | cons r1 r2 =>
     obtain⟨as,ra⟩:=NJ I d hv r1;obtain⟨bs,rb⟩:=?pD I ds hq r2;exact⟨_,.cons ra rb⟩
end
universe e9
mutual
theorem cF:∀d:D,?s3=false
 | ?d9=>rfl
 | .bl _=>rfl
 | ?d _=>rfl
 | .str _=>rfl
 | ?jM=>?kE
 | ?lB=>?kE
 theorem hasDict_toPDs:∀ds:?G D,PyData.hasDictAll ?e1=false
 | []=>rfl
 | d::ds=>by
   show(?s3 || PyData.hasDictAll ?e1)=false;rw[cF d,?kE];rfl
end
universe L2
namespace L2
open PySem PySem.Spec PyProof.Rows
section
variable{X:Cx}[?a2]
universe e9
section
variable[?v5]
universe e9
structure Fin(B k:Nat)(p:PyData):Prop where
 sh:p.showable=true
 le:p.shown.length<=B
 dp:p.depth<=k
section
variable[?v7]{E:Value->?tB}
universe e9
section
variable[?v7]{R:Result->?tB}
universe e9
universe L2
namespace Hb
open PySem L2
theorem Rows.drop{H H1 H2:Hp}{D C:Addr}{as:?tP}{w k:Nat}[?m8](R:Rows H H1 D as w f)(hC:H1 C=none)(h2:H2=upd H1 C (?p ((?mQ).map V.ref))):Rows H H2 C (?mQ) w (?sL):=by
 subst h2;refine⟨R.same.trans (?a8 hC),R.same.free hC,Ab,fun j a e=>?_⟩;rw[qv2]at e;obtain⟨h1,h3,h4⟩:=R.row (k+j) a e;have ne:a≠C:=fun z=>by rw[z,hC]at h4;cases h4
 exact⟨h1,ne,by rw[Aj ne];exact h4⟩
section
variable[?r]
universe e9
noncomputable def Hm(H:Hp)(v:V)(p:Bs):Prop:=∃t a b c,?gG/\?wZ t/\?y5 a ?dP/\?y5 b ?b6/\?y5 c ?bB/\b≠c
theorem Hm.same{H H':Hp}[?dM](h:?eX)[?fD]:Hm H' v p:=by
 obtain⟨t,a,b,c,e,h1,h2,h3,h4,ne⟩:=h;exact⟨t,a,b,c,e,?i3,s _ _ h2,s _ _ h3,s _ _ h4,ne⟩
noncomputable def B5(H:Hp):?y9 ?f ?aG
 | [],[]=>True
 | ?f0,?eK=>?eX/\?d4
 | _,_=>False
theorem B5.same{H H':Hp}[?fD]:?qL
 | [],[],h=>h
 | ?f0,?eK,h=>⟨h.1.same s,B5.same s h.2⟩
 | [],?a6,h=>h.elim
 | ?a6,[],h=>h.elim
theorem B5.len{H:Hp}:∀[?b0],?d4->?s5
 | [],[],_=>rfl
 | ?f0,?eK,h=>by rw[qd0,qd0,B5.len h.2]
 | [],?a6,h=>h.elim
 | ?a6,[],h=>h.elim
theorem B5.snoc{H:Hp}:∀[?b0][?dM],?d4->?eX->B5 H ?qC (ps++[p])
 | [],[],v,p,_,h=>⟨h,trivial⟩
 | u::vs,q::ps,v,p,h,h2=>⟨h.1,B5.snoc h.2 h2⟩
 | [],?a6,_,_,h,_=>h.elim
 | ?a6,[],_,_,h,_=>h.elim
theorem B5.get{H:Hp}:∀[?b0]{i:Nat}{v:V},?d4->?bD->∃p,?eJ/\?eX
 | [],[],i,v,_,e=>by simp at e
 | u::vs,q::ps,0,v,h,e=>⟨q,rfl,by have:u=v:=?fT
                                  subst this;exact h.1⟩
 | u::vs,q::ps,i+1,v,h,e=>by
   have e':?bD:=?fT
   obtain⟨p,h1,h2⟩:=B5.get h.2 e';exact⟨p,?M,h2⟩
 | [],?a6,_,_,h,_=>h.elim
 | ?a6,[],_,_,h,_=>h.elim
theorem Hm.put{H:Hp}{D:Addr}{vs us:?f}[?dM](h:?eX)(hD:?xX H vs):Hm (upd H D ?pC) v p:=by
 obtain⟨t,a,b,c,e,h1,h2,h3,h4,nbc⟩:=h
 have ne:∀{x:Addr}{o:HO},H x=?gM->(∀ws,o≠?p ws)->x≠D:=fun {x o} e h z=>by
  rw[z,hD]at e;cases e;exact h _ rfl
 exact⟨t,a,b,c,e,?wH (ne h1 ?fI),by rw[Aj (ne h2 ?fI)];exact h2,by rw[Aj (ne h3 ?fI)];exact h3,by rw[Aj (ne h4 ?fI)];exact h4,nbc⟩
theorem B5.put{H:Hp}{D:Addr}{us0 us1:?f}(hD:?xX H us0):∀[?b0],?d4->B5 (?wU us1) vs ps
 | [],[],h=>h
 | ?f0,?eK,h=>⟨h.1.put hD,?l1 hD h.2⟩
 | [],?a6,h=>h.elim
 | ?a6,[],h=>h.elim
theorem gU{k z:Nat}(h:k<=z)(f:?D):VI k f++?kX (z-k) (?Y 0)=VI z (?lK f k):=by
 refine qr4 fun i=>?_;by_cases hi:i<k
 . rw[qd1 (by rw[Bv];exact hi),Cm hi,Cm ?E];unfold Lat.numAt;rw[?j5]
 . rw[?wS qd6,Bv];by_cases hz:i<z
   . rw[Cm hz,List.getElem?_replicate,?F ?E];unfold Lat.numAt;rw[?y hi]
   . rw[qh3 (by rw[ql4];omega),?wS qh3]
theorem oR(n:Nat)(f:?D):(Ho n f).map ?Y=VI n f:=rfl
theorem fM{a b:Int}(ha:a.natAbs<?iQ)(hb:b.natAbs<?iQ):?dA a b:=Q0 ha hb (by unfold bookF;decide)
section
variable[?r]
noncomputable def aD:Sp:=fun vs H Q _=>z8 fun ?b8 ?B ?W (ns:?q)=>K8 (vs=[?s,?bK,?aK]) ?N (xs.length<=1000) (?wI b (ns.map ?Y)) (ns.length=?bY) (∀(D:Addr) (H':Hp),?b9->?I->?cK=?vF (Fk (?f4 ns))->?bM)
noncomputable def Vu:Sp:=fun vs H Q _=>Ap7 fun(a tp nm r1 D1 D2 b2:Addr) (vl vg:V) ?B ?W (z k0 w:Nat) (L G:Lat.Mat) (f:?D) (l r:?h5)=>wA (vs=[?s,?bK,?g tp,vl,vg]) ?N ?bX (w=?dU) (?xG vl (dT z ?a5 L)) (?xG vg (dT z ?a5 G)) (Q8 K H tp nm r1 D1 D2 b2 z w k0 f l r) (z<=40) (k0<=z) (k0<=w) ((∀i,i<k0->f i≠0)) (?aP z z ?aC l.1) (?aP z z ?aC l.2) (?o6) (?s6) (∀[?m5] (H':Hp),?b9->?I->?l0->B5 H' us (?kJ)->?bM)
noncomputable def Fr(D:Addr)(H:Hp)[?fF][?bR]:Prop:=?pX/\∀(i:Nat) v ps,?bD->?sQ->∃a us,v=?s/\a≠D/\?kS
noncomputable def Oc(H:Hp)[?fF][?bR]:Prop:=?pX/\∀(i:Nat) v ps,?bD->?sQ->∃a us,v=?s/\?kS
noncomputable def Vy:Sp:=fun vs H Q _=>Ij fun ?bU ?B=>Dp ?i5 ?N ?gQ ?bX (∀[?m5] [?bR] (H':Hp),?b9->?I->?l0->?rR->(?rE)->Oc H' us ls->?bM)
universe e9
theorem one_bits(n m:Nat):?aP n m ?aC ?e8:=fun i j _ _=>by
 have h1:1<?iQ:=Nat.one_lt_two_pow (by unfold bookF;decide);unfold Lat.one;split
 . exact h1
 . exact qt5 (?aJ:0<1) h1
theorem JR[?a2]{H:Hp}{v:V}{n:Nat}(h:?xG v (dT n n fun i j=>?o5)):?xG v (dT n n ?e8):=by
 have e:(fun i j:Nat=>if j=i then(1:Int) else 0)=Lat.one:=by
  funext i j
  unfold Lat.one;by_cases h:i=j
  . rw[?gK,?j2]
  . rw[?d6,?y ?oH]
 rwa [e]at h
theorem tY[?a2]{H:Hp}{C:Addr}[?fG]{h w k:Nat}[?m8](hr:∀i u,us[i]?=?c u->i<h/\∃b,u=?aK/\?wI b (?nE))(hl:us.length=h)(hC:?wI C (us.drop k)):?xG ?kR (dT (h-k) w ?sL):=by
 refine fH hC (by rw[qi6,hl]) ?u4;have e:us[k+i]?=?c (us[k+i]' ?aN):=?c5;obtain⟨_,b,eb,hb⟩:=hr (k+i) _ e;exact⟨b,by rw[qv2,e,eb],hb⟩
noncomputable def YZ(us:?f):Prop:=∀u∈us,∃a,u=?s
theorem W5[?a2]{H:Hp}{D b:Addr}{xs:?f}{o:HO}(h:?wI b xs)(ne:b≠D):SqL K ?hE b xs:=by
 rcases h with(h|⟨q,h⟩) | h
 . exact ?e (?e (?l2))
 . ext uY
 . exact ?i7
theorem RD[?a2]{H:Hp}{D b:Addr}{xs us:?f}{o:HO}(h:Dl K H b xs)[?f8]:Dl K ?hE b xs:=by
 rcases h with(h|⟨q,h⟩) | h
 . ext uZ
   exact ?e (?e (?l2))
 . ext uZ
   ext uY
 . exact ?i7
theorem cT[?a2]{H:Hp}{D t:Addr}[?fG]{h w:Nat}[?m8]{o:HO}(hr:?xG (?g t) (dT h w f))(ne:t≠D)(hw:0<h->0<w)[?f8](mR:YZ us):Rep K ?hE (?g t) (dT h w f):=by
 obtain⟨_,tu,ez,hq,hl,N2⟩:=Hk hr;cases ez;refine fH (W5 hq ne) hl ?u4;have e:?y8 tu tu:=?c5;obtain⟨_,b,eb,hb⟩:=N2 i _ e;refine⟨b,by rw[e,eb],?_⟩;rcases hb with(hb|⟨q,hb⟩) | hb
 . refine W5 (?e (?e hb)) ?c3;rw[z,hD]at hb;have e1:us=?nE:=by injection hb with e;injection e
   have hw':=hw O9m;have e2:us[0]?=?c (?d (f i 0)):=by rw[e1];exact Cm hw'
   obtain⟨c,hc⟩:=mR _ (qb0 e2);cases hc
 . refine W5 (?e (?k ⟨q,hb⟩)) ?c3;rw[z,hD]at hb;cases hb
 . exact ?k hb
structure iO(D nm r1 D1 D2 b2:Addr):Prop where
 e1:nm≠D
 e2:r1≠D
 e3:D1≠D
 e4:D2≠D
 e5:b2≠D
theorem Q8.put[?a2]{H:Hp}{D tp nm r1 D1 D2 b2:Addr}{n w k:Nat}[?lZ][?fG]{o:HO}(x:?wE H)(ne:?t2)[?f8](mR:YZ us):?wE ?hE :=
 ⟨RD x.tup hD,W5 x.num ne.e1,?xF x.left ne.e2,?xF x.lback ne.e3,?xF x.right ne.e4,?xF x.rback ne.e5⟩
theorem c9.ne[?a2]{H H':Hp}{tp nm r1 D1 D2 b2 D:Addr}{n w k:Nat}[?lZ]{o:HO}(x:c9 K H H' tp nm r1 D1 D2 b2 n w k f l r)(hD:H D=?gM):?t2:=by
 have go:∀a,(a=nm\/a=r1\/a=D1\/a=D2\/a=b2)->a≠D:=fun a h z=>by
  have:=(x.new a h).1;rw[z,hD]at this;cases this
 exact⟨go _ (?e rfl),go _ (?k (?e rfl)),go _ (?k (?k (?e rfl))),go _ (?wJ ?e),go _ (?wJ ?k)⟩
noncomputable def VZ[?r](H:Hp)(a D:Addr)(xs:At)(k:Nat)(σ:St)(G':Hp):Prop :=
 ∃(us:?f) (ls:?iD) (la ga:Addr) (z:Nat) (L G:Lat.Mat) (o4 o5 o6 o7:?gE V),σ=[rS a,rS D,rS la,rS ga,o4,o5,o6,o7]/\?qP/\G' D=?aV/\ls.length=k/\?xH k/\Fr D G' us ls/\la≠D/\ga≠D ∧
   Rep K G' (?g la) (dT z ?eQ L)/\Rep K G' (?g ga) (dT z ?eQ G)/\Lat.Lev (Dr xs (?W-1)) ?eQ z (Qj xs ?W) L G/\z<=?s8/\?wQ ?eQ L/\?wQ ?eQ G
theorem Fr.out{D:Addr}{H:Hp}[?dN][?c9][?iO]:?mW :=
 (?vY _ ⟨a,us,e,h1,h2⟩)
theorem Fr.same{D:Addr}{H H':Hp}[?dN][?c9][?iO][?fD]:Fr D H' vs ls :=
 (?vY n ⟨a,us,e,n,?i3,h2.same s⟩)
theorem Fr.refs{D:Addr}{H:Hp}[?dN][?c9][?iO]:YZ vs:=fun u hu=>by
 obtain⟨i,hi⟩:=qg1 hu;have hl:=(?a3 hi).1;have h0:=h.1;obtain⟨a,_,e,_⟩:=h.2 i u _ hi (?c5);exact⟨a,e⟩
theorem Fr.snoc{D E:Addr}{H:Hp}{vs eu:?f}[?c9][?dL][?iO](hD:?xX H vs)(ne:E≠D)(hE:H E=?vM eu)(r:B5 H eu ps):Fr D (?wU (vs++[?g E])) (vs++[?g E]) (ls++[ps]):=by
 refine⟨by rw[qc3,qc3,h.1];rfl,fun i v qs e1 e2=>?_⟩;have h0:=h.1;by_cases hi:?jQ
 . rw[?k2]at e1;rw[?lG]at e2;obtain⟨a,us,e,n,h1,h2⟩:=?y7 v qs;exact⟨a,us,e,n,?wH n,?l1 hD h2⟩
 . ext uJ
   ext uN;have q1:v=?g E:=?sJ
   have q2:qs=ps:=?pE
   subst q1 q2;exact⟨E,eu,rfl,ne,by rw[Aj ne];exact hE,?l1 hD r⟩
universe Hb
namespace L2
open PySem PySem.Spec PyProof.Rows PySem.SeqAt
noncomputable def VQ(H:Hp)(vs ws:?f):Prop:=?rT/\∀(i:Nat) (v w:V),?bD->?mV->(∃n,v=?aX/\w=?aX)\/∃a b ms ns,v=?s/\w=?aK/\Rd H a ?c8/\Rd H b (.dK (cK ns))/\sameC ms ns=true
noncomputable def QD[?r](H:Hp)(vs ws:?f):Prop:=?rT/\∀(i:Nat) (v w:V),?bD->?mV->∃t t' xs ys,?gG/\w=?g t'/\Dl K H t xs/\Dl K H t' ys/\VQ H xs ys
inductive JZ[?r](x:V)(y:V)(H:Hp)(Q:VK):Prop
 | mk:∀(l m:Addr) (vs ws:?f),(x=?g l)->(y=?g m)->(?wI l vs)->(?wI m ws)->(QD K H vs ws)->(Q (?rQ) H)->?tO
noncomputable def nK[?r]:R2:=fun x y H Q=>?tO
section
variable{X:Cx}{n:Nat}[?a2]
theorem sY{A:Around}[?uG](hu:A.units+6<cLine)[?v6](L:VQ H vs ws) :
 ?x1 A:=by
 ext uT
 have h2':?pB:=?oX
 ext uD
 ext uV
 ext uL
 have f1:?gT=u:=by
  have:?tN:=?aM
  rw[eu]at this;ext iI
 have f2:?hN=u':=by
  have:its'[j]?=?c its'[j]:=?aM
  rw[eu']at this;ext iI
 rw[f1,f2];rcases ?s0 with⟨n,e1,e2⟩|⟨p,p',ms,ns,e1,e2,hp,TN,hs⟩
 . rw[e1]at ru;rw[e2]at NI;have:=(HS I ?cN A ?cN ?cN u u' ?cN (by show A.units+0<cLine;omega) rfl rfl ru NI).2;rw[show eqD ?cN ?cN=true by show ?t (n=n)=true;simp]at this;exact this
 . rw[e1]at ru;rw[e2]at NI;cases ru;cases NI;by_cases hab:p=p'
   . rw[hab];exact EqAt.same _
   . have r:=RcAt.dicts (A:=A) (I.idict hp) (I.idict TN) O9m;rw[show(ms.length==ns.length&&ms.all fun p=>?t (?g0 ns p.1=?c p.2))=true from hs]at r;exact ?sT hab r
theorem nY[?uG][?m4][?v6](L:QD X.K H vs ws) :
 ?x1 X.A.in1:=by
 ext uT
 have h2':?pB:=?oX
 ext uD
 ext uV
 ext uL
 have f1:?gT=u:=by
  have:?tN:=?aM
  rw[eu]at this;ext iI
 have f2:?hN=u':=by
  have:its'[j]?=?c its'[j]:=?aM
  rw[eu']at this;ext iI
 rw[f1,f2];obtain⟨t,t',xs,ys,e1,e2,hx,hy,L2⟩:=?s0;rw[e1]at ru;rw[e2]at NI;cases ru;cases NI;by_cases hab:t=t'
 . rw[hab];exact EqAt.same _
 . obtain⟨i1,r1,p1,_⟩:=?jK hx;obtain⟨i2,r2,p2,_⟩:=?jK hy;have q1:=r1.length;have q2:=r2.length;have q3:=L2.1;have main:=RcAt.tuples (A:=X.A.in1) (s:=s) (e:=?gW) p1 p2 (by show ?tG<cLine;omega) (sY I (by show ?tG+1+6<cLine;omega) r1 r2 L2);have e0:((?bT (min i1.toArray.size i2.toArray.size)).all (?gW)&&i1.toArray.size==i2.toArray.size)=true:=?eA
   rw[e0]at main;exact ?sT hab main
theorem gP[?m4]:?wX X.K:=by
 intro Ac s σ H x y v u Q I rx ry h;obtain⟨l,m,vs,ws,rfl,rfl,hl,hm,L,q⟩:=h;cases rx;cases ry;obtain⟨its,rv,p,_⟩:=?jY hl;obtain⟨its',DZ,p',_⟩:=?jY hm;have l1:=rv.length;have l2:=DZ.length;have l3:=L.1;have main:=RcNeAt.lists (A:=X.A) (s:=s) (e:=?gW) p.isList p'.isList (?eA) O9m (nY I hu rv DZ L);have e0:(!(?bT its.toArray.size).all (?gW))=false:=?aM
 rw[e0]at main;exact main ?k1 X.w X.xe _ ⟨?rQ,H,I,rfl,q⟩
theorem EV[?m4](hK:X.K=K:=by rfl):?wX K:=by subst hK;exact gP hu
universe e9
universe L2
namespace Hb
open PySem L2
noncomputable def Ux[?b3]:?aG:=ps.filter fun p=>?t (p.1≠1)
theorem EN[?b3](p:Bs):Ux (ps++[p])=if p.1=1 then ?fN else ?fN++[p]:=by
 unfold Ux;rw[qn8];by_cases h:p.1=1
 . rw[?gK,qm5,?y (by simp[h]),List.filter_nil,List.append_nil]
 . rw[?d6,qm5,?F (by simp[h]),List.filter_nil]
noncomputable def lift1(fl:Ms)[?fE](g:?aA):?aL:=lf.set ?rD (Gv (lf.getD ?rD []) (T9 g.2 fl))
noncomputable def jH[?fE](p:Bs):?aL:=if p.1=1 then p.2.2.1.foldl (lift1 ?bB) lf else lf
noncomputable def V4[?fE][?b3]:?aL:=ps.foldl jH lf
noncomputable def Nu(n:Nat)[?bR]:?aL:=ls.foldl V4 (?kX n [])
structure Gr(ms:Ms):Prop where
 n:?aU
 z:nz ms
 k:XX ms
theorem Gr.nil:Gr []:=⟨List.nodup_nil,(fun p h=>?g4),(fun p h=>?g4)⟩
theorem Gr.len{ms:Ms}(h:?i4):?kA:=by
 have:=Y3 (?X fun(p:?aA)=>p.1) (uO 40) h.n fun x hx=>by
  obtain⟨p,hp,rfl⟩:=?V hx;have:=h.k p hp;ext uQ
 rwa [qa4,BF]at this
theorem eZ{ms:Ms}{j:Int}(h:Bu ms j≠0):j∈?X (·.1):=by
 by_cases e:j∈?X (·.1)
 . exact e
 . exact ?bN (Jb e) h
theorem Gr.plus{ms ns:Ms}(h1:?i4)(h2:Gr ns):Gr (Gv ms ns):=by
 obtain⟨r1,r2,_,r4⟩:=jC ns ms h1.n h1.z h2.n;refine⟨r1,r2,?d3⟩;have e:=F7 r1 hp;have e2:Bu (Gv ms ns) p.1=p.2:=by unfold Bu;rw[e];rfl
 have hz:=r2 p hp;rw[←e2,r4]at hz
 have:p.1∈?X (·.1)\/p.1∈ns.map (·.1):=by
  by_cases q:?pH=0
  . exact ?k (eZ O9m)
  . exact ?e (eZ q)
 rcases this with h | h
 . obtain⟨q,hq,eq⟩:=?V h;rw[←eq];exact h1.k q hq
 . obtain⟨q,hq,eq⟩:=?V h;rw[←eq];exact h2.k q hq
theorem Gr.times{ms:Ms}(h:?i4)(n:Int):Gr (T9 n ms):=by
 unfold T9;split
 . exact Gr.nil
 . rename_i hn
   refine⟨?_,?d3,?d3⟩
   . have:=h.n;unfold nd at this ⊢;rw[ql3];exact this
   . obtain⟨q,hq,rfl⟩:=?lV;exact Int.mul_ne_zero hn (h.z q hq)
   . obtain⟨q,hq,rfl⟩:=?lV;exact h.k q hq
noncomputable def c7(n:Nat)[?fE]:Prop:=lf.length=n/\∀m∈lf,Gr m
theorem c7.at{n:Nat}{lf:?aL}(h:c7 n lf)(i:Nat):Gr (lf.getD i []):=by
 rw[qa7];cases e:lf[i]? with
 | none=>exact Gr.nil
 | some m=>exact h.2 m (qb0 e)
theorem c7.lift1{n:Nat}{lf:?aL}{fl:Ms}(h:c7 n lf)(hf:Gr fl)(g:?aA):c7 n (lift1 fl lf g):=by
 refine⟨by unfold Hb.lift1;rw[qi3];exact h.1,fun m hm=>?_⟩;rcases qm3 hm with q | rfl
 . exact h.2 m q
 . exact(h.at _).plus (hf.times _)
structure qC(n:Nat)(p:Bs):Prop where
 gk:∀g∈?b6,0<=g.1/\g.1<?aR
 fl:Gr ?bB
 mul:∀g∈?b6,∀q∈?bB,?dA g.2 q.2
noncomputable def Ft(O H:Hp)[?fF][?fE]:Prop:=vs.length=lf.length/\∀(i:Nat) v,?bD->∃c,v=?bA/\?cJ/\?y5 c (lf.getD i [])
theorem c7.first(n:Nat):c7 n (?kX n []):=⟨ql4 ..,fun m hm=>by rw[(List.mem_replicate.mp hm).2];exact Gr.nil⟩
theorem Ft.same[?v0][?fD]:?o8 :=
 (?wW ⟨c,e1,e0,s _ _ e2⟩)
theorem Ft.keep[?v0](s:∀c kvs,?cJ->H c=?c (.dK kvs)->H' c=?c (.dK kvs)):?o8 :=
 (?wW ⟨c,e1,e0,s _ _ e0 e2⟩)
theorem Ft.snoc[?uE]:Ft O H (vs++[?bA]) (lf++[m]):=by
 have h0:=h.1;refine⟨?mY,fun i v ei=>?_⟩;rw[qa7];by_cases hi:?jQ
 . rw[?k2]at ei;rw[?lG,←qa7];exact h.2 i v ei
 . have hi2:=(?a3 ei).1;rw[qc3,qo4]at hi2;have eq:?o9:=O9m
   subst eq;rw[?hU,qh8]at ei;rw[h0,?hU,qh8];have q1:v=?bA:=by simpa using ei.symm
   exact ?sE
theorem Ft.set[?uE](i:Nat):Ft O H (vs.set i (?bA)) (lf.set i m):=by
 have h0:=h.1;refine⟨by rw[qi3,qi3,h0],fun j v ej=>?_⟩;rw[qa7];by_cases q:i=j
 . subst q;have hl:=(?a3 ej).1;rw[qi3]at hl;rw[qn9 hl]at ej;rw[qn9 ?E];have q1:v=?bA:=by simpa using ej.symm
   exact ?sE
 . rw[qk2 q]at ej;rw[qk2 q,←qa7];exact h.2 j v ej
noncomputable def Ke(_K:W.Frag):Sp:=fun vs H Q _=>Qt fun ?bU ?e2 ?kO=>Dp ?i5 (H a=?aV) (?nW) (ps.length<=1000) (∀(D:Addr) (us':?f) (H':Hp),?b9->?I->?cK=?vM us'->B5 H' us' ?gS->?bM)
noncomputable def Vv[?r]:Sp:=fun vs H Q _=>z8 fun ?b8 ?B ?e2 ?sX=>M9 ?gU ?N ?bX (H b=?aV) (Oc H us ls) ((∀ps∈ls,?pW)) (∀(D:Addr) (ws:?f) (H':Hp),?b9->?I->?cK=?vM ws->Ft H H' ws (Nu ?b5 ls)->?bM)
theorem U0(n:Nat):Di n=((n-1:Nat):Int):=by
 unfold Di;ext cB
theorem lV{xs:At}{p:?q}(h:Ap6 xs p):Zl xs (tI p)=true:=by
 have bl:∀f∈p,∃q,?rI=?eR/\?lI=q/\f.toNat<xs.length/\q.length-1+1=p.length-1:=fun f hf=>by
  obtain⟨q,e,l⟩:=h.bel f hf;obtain⟨hlt,_⟩:=?a3 e;exact⟨q,e,by rw[qa7,e];rfl,hlt,l⟩
 show Zl xs (?A (Fj p))=true;rw[Qf];have hl:(Fj p).length=p.length:=by simp[Fj]
 rw[hl];simp only[qc2,qp8];refine⟨⟨?_,?_⟩,?_⟩
 . rcases h.cnt with e | e | e | e<;>rw[e]<;>rfl
 . rw[qe1];intro d hd;obtain⟨f,hf,rfl⟩:=?V hd;obtain⟨q,e,eq,hlt,l⟩:=bl f hf;have h0:=h.low f hf;show(?t (0<=f)&&?t (f<?c0)&&?t (Di ?pO=Di p.length-1))=true;rw[eq,U0,U0];simp only[qc2,qo0];omega
 . by_cases h3:3<=p.length
   . right
     have e0:(Fj p).map UO=p:=by
      unfold Fj;rw[ql3];exact ?n0 p
     rw[e0];ext uX;have hj:=?cQ hj;have hi:=?k0;unfold Ty;rw[qo0];have ej:p[j]?=?c p[j]:=?hK;have ei:?y8 p p:=?c5;obtain⟨q,e1,e2,_⟩:=bl p[j] (qe4 hj);obtain⟨r,e3,e4,_⟩:=bl (p[i]' ?aN) (?bW);have key:=h.agr h3 i j _ _ q r hi ej ei e1 e3;rw[show ?hD=p[j] by rw[qa7,ej];rfl,show ?fW=p[i]' ?E by rw[qa7,ei];rfl,e2,e4,qa7,qa7,key]
   . left;rw[U0];simp;omega
theorem N9[?dK]{v:?D}{q:?aA}(h:q∈?gY):(?jC)/\∃c,c<?eT/\q.2=v c:=by
 obtain⟨h1,h2⟩:=cU h;have h3:=Gg h1;obtain⟨c,hc,e⟩:=?V h2;exact⟨⟨h3.1,h3.2.1⟩,c,?cQ hc,e.symm⟩
theorem Vk[?v2]:Gr ?e4:=by
 refine⟨?_,?iY,?iY⟩
 . have:=FW (sp:=?a9) (ns:=?dF) (?iX) (?l6);unfold nd at this ⊢;exact this.sublist (List.Sublist.map _ (qu7 ..))
 . have:=(?dO hq).2;ext fA
 . have:=?tS;omega
theorem Oi.ok[?iG]:?pW:=by
 ext f5;intro p hp;ext iJ;have hi:=?k0;ext v1;refine⟨fun g hg=>(N9 hg).1,?_,fun g hg q hq=>?_⟩
 . ext uH
   . exact Gr.nil
   . exact ?gA
 . obtain⟨_,c,hc,e⟩:=N9 hg
   replace hq:q∈?iC:=hq
   split at hq
   . cases hq
   . rename_i e0
     have hik:i<k0:=by
      by_cases hh:i<k0
      . exact hh
      . unfold Lat.numAt at e0;rw[?y hh]at e0;exact ?bN rfl e0
     obtain⟨_,d,hd,e2⟩:=N9 hq
     have h1:(?eF z l.1 G i c).natAbs<?gN:=IJ fun j hj=>by
      rw[qb1,qd7];exact ?xE ?rS bl.bG
     have h2:=bl.fin.br.1 i d (qb3 hik bl.kw) hd;rw[e,e2];exact Q0 h1 h2 (by unfold bookF;omega)
theorem B5.kd{H H':Hp}(s:∀c o,?tU):?qL
 | [],[],h=>h
 | ?f0,?eK,h=>by
   obtain⟨⟨t,a,b,c,e,h1,h2,h3,h4,ne⟩,h5⟩:=h;exact⟨⟨t,a,b,c,e,s _ _ h1 ?tA,s _ _ h2 ?d1,s _ _ h3 ?d1,s _ _ h4 ?d1,ne⟩,B5.kd s h5⟩
 | [],?a6,h=>h.elim
 | ?a6,[],h=>h.elim
theorem Oi.len[?iG]:ps.length<=40:=by
 ext f5;unfold Iq;rw[qa4,qo2];exact ?r4
noncomputable def LQ(H:Hp)(d:Addr):Hp:=fun a=>if a=d then none else H a
theorem Lj{H:Hp}{c d:Addr}(h:c≠d):LQ H d c=H c:=?d6
theorem JM{H:Hp}{d:Addr}:LQ H d d=none:=?lL
theorem lQ{H:Hp}{d:Addr}:?u ?pQ H:=fun c o e=>by
 by_cases h:c=d
 . rw[h,JM]at e;cases e
 . rwa [Lj h]at e
theorem pB{O H:Hp}{d:Addr}(s:?u O H)(h:O d=none):?u O ?pQ:=fun c o e=>by
 rw[Lj (Ao e h)];exact ?kW
structure IQ[?r](C:Addr)(B:Hp)(p:Addr)(xs:At)[?bR]:Prop where
 ob:zG fun dx P Lv Lf lu wu=>B p=?c (.ins C dx [(?nQ,?g P),(?sF,?g Lv),("lifts",?g Lf)])/\Dp (LT K B (?g P) xs) (B Lv=?vM lu) (Oc B lu (ls.map Ux)) (B Lf=?vM wu) (Ft (fun _=>none) B wu (Nu ?b5 ls))
 sh:?eN
 len:?dZ
 n4:?rR
 lev:∀(k:Nat) ps,ls[k]?=?e9->Oi xs ?W ps
 tie:?rE
noncomputable def jA[?r]:Sp:=fun vs H Q _=>Ij fun ?i0 ?B=>B6 (vs=[v]) (LT K H v xs) ?bX (?j7)
noncomputable def Xw[?r]:Sp:=?yE (∀H',?I->?lO)
noncomputable def Sn[?r]:Sp:=?yE ?g2
noncomputable def dU[?r](C:Addr):Sp:=fun vs H Q _=>zG fun(p dx a:Addr) ?e2 (H0:Hp) ?B=>KG (vs=[?hS,?s]) (H p=?c (.ins C dx [])) (H a=?aV) (Reps K H0 us (xs.map tI)) (?u H0 H) (H0 a=none) (H0 p=none) ?gQ ?bX (∀(B:Hp) [?bR] (H':Hp),SameX p H H'->?tE->?u H0 B->?u B H'->B a=none->?lO)
noncomputable def Me(O H:Hp)(v:V)(p:Bs):Prop:=∃t a b c,?gG/\(O t=none/\O a=none/\O b=none/\?cJ)/\?wZ t/\?y5 a ?dP/\?y5 b ?b6/\?y5 c ?bB
theorem Me.kd{O H H':Hp}[?dM](h:?gX)[?uK]:Me O H' v p:=by
 obtain⟨t,a,b,c,e,⟨n1,n2,n3,n4⟩,h1,h2,h3,h4⟩:=h;exact⟨t,a,b,c,e,⟨n1,n2,n3,n4⟩,s _ _ n1 h1 ?tA,s _ _ n2 h2 ?d1,s _ _ n3 h3 ?d1,s _ _ n4 h4 ?d1⟩
noncomputable def Cr(O H:Hp)[?fF][?b3]:Prop:=?s5/\∀(i:Nat) v p,?bD->?eJ->?gX
theorem Cr.kd{O H H':Hp}[?b0][?iN][?uK]:?sY :=
 ⟨h.1,fun i v p e1 e2=>(?t0).kd s⟩
theorem Cr.same{O H H':Hp}[?b0][?iN][?fD]:?sY:=h.kd fun c o _ e _=>?kW
theorem Me.put{O H:Hp}{D:Addr}{us ws:?f}[?dM](h:?gX)[?f8]:Me O (?wU ws) v p:=h.kd fun c o _ e ho=>by
 rw[Aj ?c3]
 . exact e
 . rw[z,hD]at e;cases e;rcases ho with⟨_,q⟩|⟨_,q⟩<;>cases q
theorem Cr.put{O H:Hp}{D:Addr}{us ws vs:?f}[?dL][?iN][?f8]:Cr O (?wU ws) vs ps:=⟨h.1,fun i v p e1 e2=>(?t0).put hD⟩
theorem Cr.snoc{O H:Hp}[?b0][?dM][?iN](hp:?gX):Cr O H ?qC (ps++[p]):=by
 have h0:=h.1;refine⟨?mY,fun i u q e1 e2=>?_⟩;by_cases hi:?jQ
 . rw[?k2]at e1;rw[?lG]at e2;exact ?y7 u q
 . ext uJ
   ext uN;have q1:u=v:=?sJ
   have q2:q=p:=?pE
   subst q1 q2;exact hp
theorem Oc.at{H:Hp}[?dN][?c9]{k:Nat}(h:?mW)(hk:k<ls.length):∃a us ps,vs[k]?=?lT/\ls[k]?=?e9/\?kS:=by
 have h0:=h.1;have e1:vs[k]?=?w1 vs k:=?c5;have e2:ls[k]?=?c ls[k]:=qa0 hk;obtain⟨a,us,e,h1,h2⟩:=h.2 k _ _ e1 e2;exact⟨a,us,_,by rw[e1,e],e2,h1,h2⟩
noncomputable def aG[?r](C:Addr):Sp:=fun vs H Q _=>z8 fun(p:Addr) ?W (B:Hp) ?B ?sX=>K8 (vs=[?hS,?bK]) (?tE) (?u B H) (0<=k) (k<4) (∀[?b3] [?m5] (H':Hp),ls[k.toNat]?=?e9->?b9->?I->?l0->Cr H H' us ?gS->?bM)
universe Hb
namespace L2
open PySem PySem.Spec PyProof.Rows PySem.SeqAt
section
variable{X:Cx}
theorem CY:E6 X (.builtin ?iS) (fun xs H Q=>∃a vs,xs=[?s,.ty "tuple"]/\H a=?c ?n6/\?j7):=by
 ext uC;obtain⟨_,its,_,ob,ho,hc,_⟩:=(?wA ?n6)
 exact PySem.IsiPair.tuple_tuple ho hc ?qD
theorem cZ:E6 X (.builtin ?iS) (fun xs H Q=>∃a vs,xs=[?s,.ty ?g8]/\H a=?vM vs/\?j7):=by
 ext uC;obtain⟨_,its,m,_,ho⟩:=(?wA (?p vs))
 exact PySem.IsiPair.list_list ho rfl ?qD
universe e9
universe L2
namespace Hb
open PySem L2
noncomputable def dM(ms:Ms)[?b1]:?fR
 | 0=>ms
 | j+1=>?oU
noncomputable def dH[?b2]:?fR
 | 0=>[]
 | i+1=>dM ?f2 ?gB ?gF ?dR
theorem pH(ms:Ms)(k v j:Int):Bu (putI ms k v) j=if j=k then v else Bu ms j:=by
 unfold Bu;rw[aK];split<;>rfl
theorem JN(ms:Ms)[?fC](n k:Int):∀j,Bu ?cU k=?a7+?hB*n
 | 0=>by simp[dM,F1]
 | j+1=>by
   have ih:=JN ms fs n k j;show Bu (?oU) k=?a7+(if fs.getD j 0=k then ?g7-2*(?aB%2) else ?hB)*n;rw[pH];by_cases h:fs.getD j 0=k
   . rw[?j2,?gK,h,ih];unfold e9;by_cases h2:?aB%2=0
     . rw[?F h2,h2];rw[show ?g7-2*0=?g7 by omega,qs4];omega
     . have h3:?aB%2=1:=O9m
       rw[?y h2,h3];rw[show ?g7-2*1=?hB+-1 by omega,qs4];omega
   . rw[?qN,?d6];exact ih
theorem OL[?fB][?b1]:∀j,nd ?cU
 | 0=>h
 | j+1=>gW (OL h fs n j) _ _
theorem bZ(ms:Ms)[?b1]:∀j,(?nH).length<=ms.length+j
 | 0=>?bI
 | j+1=>by
   have h1:=bZ ms fs n j;have h2:=?xB JH;show ?wR putI;omega
theorem oK[?b2]:∀i,nd ?f2
 | 0=>List.nodup_nil
 | i+1=>?xL OL oK
theorem BY[?dJ](ms:Ms):∀i,(?rB).length<=4*i
 | 0=>?bI
 | i+1=>by
   have h1:=BY h4 ms i;have h2:=bZ ?f2 ?gB ?gF ?dR
   have h3:?dR<=4:=by
    rw[qa7];cases e:xs[(ms.getD i (0,0)).1.toNat]? with
    | none=>show ?hZ<=4;omega
    | some x=>exact ?rJ
   show(dM _ _ _ _).length<=_;omega
theorem DL[?b2](y:Int):∀i,Bu ?f2 y=Bu ?bG y
 | 0=>rfl
 | i+1=>by
   show Bu (dM ?f2 _ _ _) y=Bu (Gz ?bG _ _ _) y;rw[JN,aS,DL xs ms y i]
theorem gM[?uF](e:Int):Bu (Dz xs ?e4) e=0:=by
 ext uP
 by_cases he:e∈?jD
 . obtain⟨x,hx,ex⟩:=qj0 he;have:=h0 x hx;show Bu (Dz xs (Fk (?f4 (?dF)))) e=0;rw[PZ hl];refine ?p6 ?_ ?cC;unfold Lat.mulV;refine Al ?iB;unfold Qj;rw[show ?kB x 0=e by rw[qa7,qa0 hx,ex];rfl,?pV]
 . refine Jb fun hm=>he ?_;obtain⟨r,hr,rfl⟩:=?V hm
   have hcb:=Zy hs (k:=k) (ms:=?gY) fun q hq=>by
    have:=Gg (cU hq).1;exact⟨?gJ,?sH,this.2.2⟩
   ext uS;have h2:(?q6&&?t (Di (?m r.1.toNat []).length=k-1))=true:=h1.1;ext uM
theorem tZ{ms:Ms}(hn:?aU)(h:∀e,Bu ms e=0):Fk ms=[]:=by
 unfold Fk;rw[List.filter_eq_nil_iff];intro p hp;have e1:?pH=p.2:=by unfold Bu;rw[F7 hn hp];rfl
 rw[h]at e1;simp[←e1]
theorem kW[?uF]:Fk (dH xs ?e4 (?gY).length)=[] :=
 tZ (oK _ _ _) fun e=>by rw[DL];exact gM hs h0 e
theorem lT[?dK]{u v:?D}:wF (Bu (?x6 u)) ?e4=Am (fun c=>u c*v c) ?a5:=by
 ext uP
 have hu:(?u0).length=?bY:=?iX
 have hz:=fZ (Bu (?x6 u)) hl _ ?c4;rw[qi8 (?eA)]at hz;show wF _ (Fk (?f4 (?dF)))=_;rw[gA,hz];refine Al ?iB;have hb:=nJ hu ?qY
 have e1:Bu (?x6 u) (?jI)=u j:=by
  have h1:((?a9).map (Bu (Fk (?f4 (?u0)))))[j]?=?c (u j):=by rw[hb,Xd hj]
  rw[qa9,?hK]at h1;rw[qa7,?hK];exact qc6 h1
 rw[e1,?pV]
structure dG[?K](ms:Ms):Prop where
 len:?kA
 part:∀q∈ms,(?jC)/\Di (?lM).length=k/\q.2≠0
structure ZE[?K](p:Bs):Prop where
 lp:dG xs k ?dP
 gg:dG xs k ?b6
 fl:dG xs ?bF ?bB
 no:p.1=0->?bB=[]
 nn:?fO
 n1:p.1≠1
noncomputable def Ao7(p q:Bs):Prop:=(p.1=0->q.1=0)/\(0<p.1->q.1%p.1=0)
structure DG[?K][?b3]:Prop where
 one:∀p∈ps,ZE xs k p
 ord:ps.Pairwise Ao7
structure FQ(xs:At)[?b3]:Prop where
 rnd:∀p∈ps,Fk (dH xs ?dP p.2.1.length)=[]
 mul:∀p∈ps,∀q∈ps,∀t∈q.2.1,?dA (Bu ?b6 t.1) t.2
 dual:∀(i j:Nat) p q,?eJ->ps[j]?=?eR->wF (Bu ?b6) q.2.1=if i=j then 1 else 0
noncomputable def Ks[?b3](i:Nat):Int:=((1:Int)::ps.map fun p=>p.1).getD i 1
theorem Y5[?dL]{i:Nat}{p:Bs}(h:?eJ):Ks ps ?bP=p.1:=by
 unfold Ks;rw[List.getD_cons_succ,qa7,qa9,h];rfl
theorem oV[?dL](h:ps.Pairwise Ao7)(hn:∀p∈ps,?fO){i:Nat}{p:Bs}(e:?eJ):0<=?fM/\(?fM=0->p.1=0)/\(0<?fM->p.1%?fM=0):=by
 cases i with
 | zero =>
   have e0:Ks ps 0=1:=rfl;rw[e0];exact⟨?aJ,(?lS),fun _=>Int.emod_one _⟩
 | succ i =>
   obtain⟨hl,rfl⟩:=?a3 e;have e1:?y8 ps ps:=?c5;rw[Y5 e1];have:=qq7.mp h i ?bP O9m hl O9m;exact⟨hn _ (?bW),?gJ,this.2⟩
noncomputable def Vz(_K:W.Frag):Sp:=fun vs H Q _=>Ij fun ?bU ?b7=>B6 ?i5 (H a=?c ?c8) ?hG (oG H (Fk ms) Q)
noncomputable def Sq[?r]:Sp:=fun vs H Q _=>T7 fun ?b8 ?B ?b7=>M9 ?gU ?N ?dY (ms.length<=100) ?g1 ((∀q∈ms,?jC)) (oG H (Fk (dH xs ms ?l3)) Q)
noncomputable def V0[?r]:Sp:=fun vs H Q _=>z8 fun ?b8 ?B ?W ?b7=>Dp (vs=[?s,?bK,?aK]) ?N ?dY (dG xs k ms) ?g2
noncomputable def aE(_K:W.Frag):Sp:=fun vs H Q _=>T7 fun(g c:Addr) (gs cs:Ms)=>Dp (vs=[?g g,?bA]) (?y5 g gs) (?y5 c cs) ((∀t∈cs,?dA (Bu gs t.1) t.2)) (?w8 (?d (wF (Bu gs) cs)))
noncomputable def So[?r]:Sp:=fun vs H Q _=>uK fun ?oY ?B ?W ?e2 ?kO (O:Hp)=>K8 (vs=[?s,?bK,?g D]) ?N (H D=?aV) (?lN) (DG xs k ps) ?g2
noncomputable def Xy[?r]:Sp:=fun vs H Q _=>uK fun ?oY ?B ?W ?e2 ?kO (O:Hp)=>fW (vs=[?s,?g D]) ?N (H D=?aV) (us.length<=1000) (?lN) ?g1 (DG xs k ps) (FQ xs ps) ?g2
theorem iG[?v2]:dG xs k ?e4 :=
 ⟨(?u2).len,fun q hq=>⟨?tS,(Gg (cU hq).1).2.2,(?u2).z q hq⟩⟩
theorem dG.nil[?K]:dG xs k []:=⟨?cZ,fun q hq=>by cases hq⟩
noncomputable def jJ(f:?D)(k0 z:Nat):?G Nat:=(?bT z).filter fun i=>?t (?bH≠1)
theorem JE[?iF]:Ux (?kJ)=(?lF).map (?vN DA k):=by
 unfold Ux Iq jJ;rw[List.filter_map];rfl
theorem Mt{f:?D}{k0 z i:Nat}(h:i∈?lF):i<z/\?bH≠1:=by
 have:=?dO h;exact⟨?cQ ?gJ,qc8 this.2⟩
theorem eW(f:?D)(k0 z:Nat):(?lF).Pairwise (·<·):=?oD _ List.pairwise_lt_range
theorem XC{f:?D}{k0 i:Nat}(h:?oL):0<=?bH:=by
 unfold Lat.numAt;split
 . rename_i q
   exact Int.le_of_lt (h i q)
 . exact Int.le_refl 0
theorem SQ{f:?D}{k0 i j:Nat}(h:?oL)(ch:?sZ)(hij:i<j):(?bH=0->?sN=0)/\(0<?bH->?sN%?bH=0):=by
 unfold Lat.numAt;by_cases hj:j<k0
 . have hi:i<k0:=O9m
   have:=h i hi;rw[?F hj,?j5];exact⟨?dD,fun _=>Int.emod_eq_zero_of_dvd (ch i j hi hij hj)⟩
 . rw[?y hj];exact⟨?j3,fun _=>Int.zero_emod _⟩
theorem Oi.holes[?iG]:DG xs k ?gS:=by
 ext f5;rw[JE];refine⟨?d3,?_⟩
 . ext iJ;obtain⟨hz,h1⟩:=Mt hi;refine⟨?k3,?k3,?_,?kV,XC ?t1,h1⟩
   . show dG xs ?bF ?iC;split
     . exact dG.nil _ _
     . exact ?k3
   . show ?iC=[]
     exact ?bO
 . rw[qr1];exact(?mK).imp fun hij=>SQ ?t1 bl.ch hij
theorem Oi.rounds[?dK][?dL](h:?oT)(hs:?eN)(Jv:?dZ):FQ xs ?gS:=by
 ext f5;rw[JE];ext v1
 have bits:∀(P M:Lat.Mat),?wQ z P->?wQ ?a5 M->∀i c,i<z->c<?eT->(?eF z P M i c).natAbs<?gN:=fun P M h1 h2 i c hi hc=>IJ fun j hj=>by
  rw[qb1,qd7];exact ?xE h1 h2
 refine⟨?d3,fun p hp q hq t ht=>?_,fun a b p q e1 e2=>?_⟩
 . ext iJ;exact kW hs (bl.lev.round i)
 . ext iJ;obtain⟨j,hj,rfl⟩:=?V hq;obtain⟨_,c,hc,e⟩:=N9 ht;have b2:t.2.natAbs<?gN:=by rw[e];exact bits _ _ bl.fin.bl.2 bl.bL j c (Mt hj).1 hc
   have b1:(Bu (?lR) t.1).natAbs<?gN:=by
    unfold Bu;cases eL:lookI (W2 xs k (Lat.turnL z l.1 G i)) t.1 with
    | none=>exact Nat.two_pow_pos _
    | some v =>
      obtain⟨_,d,hd,ed⟩:=N9 (Ka eL);show v.natAbs<_;rw[show v=_ from ed];exact bits _ _ ?rS bl.bG i d (Mt hi).1 hd
   exact Q0 b1 b2 (by unfold bookF;omega)
 . rw[qa9]at e1 e2;obtain⟨i,hi,rfl⟩:=qh5.mp e1;obtain⟨j,hj,rfl⟩:=qh5.mp e2;have hi':=(Mt (qb0 hi)).1;have hj':=(Mt (qb0 hj)).1;show wF (Bu (?lR)) (?x6 (?eF z l.2 L j))=_;rw[lT,bl.lev.gauge bl.fin.dg.dl hi' hj'];have nd1:=qq7.mp (?mK);obtain⟨la,ea⟩:=?a3 hi;obtain⟨lb,eb⟩:=?a3 hj
   have:i=j↔a=b:=by
    constructor
    . intro e;rcases qk3 a b with h | h | h
      . have:=nd1 a b la lb h;omega
      . exact h
      . have:=nd1 b a lb la h;omega
    . intro e;subst e;exact qc6 (hi.symm.trans hj)
   by_cases q:a=b
   . rw[?F q,?F (this.mpr q)]
   . rw[?y q,?y fun z=>q (this.mp z)]
theorem Oi.lf[?iG]:∀p∈?fN,?u7:=by
 ext f5;intro p hp;obtain⟨i,_,rfl⟩:=?V (?dO hp).1;refine⟨?gA,?gA,?_⟩;ext uH
 . exact Gr.nil
 . exact ?gA
theorem Gr.refl{ms:Ms}(h:?i4):sameC ms ms=true:=kU h.n h.n h.z h.z ?j3
theorem gO[?a2]{O O' H:Hp}{us vs:?f}[?dL](h1:?lN)(h2:Cr O' H vs ps)(lf:∀p∈ps,?u7):QD K H us vs:=by
 have l1:=h1.1;have l2:=h2.1;refine⟨O9m,fun i v w e1 e2=>?_⟩;have hi:=?sB;have ep:?y8 ps ps:=?c5;obtain⟨t,a,b,c,rfl,_,et,ea,eb,ec⟩:=h1.2 i v _ e1 ep;obtain⟨t',a',b',c',rfl,_,et',ea',eb',ec'⟩:=h2.2 i w _ e2 ep;obtain⟨q1,q2,q3⟩:=lf _ (qb0 ep);refine⟨t,t',_,_,rfl,rfl,.of et,.of et',rfl,fun j x y f1 f2=>?_⟩
 match j,f1,f2 with
 | 0,f1,f2=>cases f1;cases f2;exact ?e ⟨_,rfl,rfl⟩
 | 1,f1,f2=>cases f1;cases f2;exact ?k ⟨_,_,_,_,rfl,rfl,?e ea,?e ea',q1.refl⟩
 | 2,f1,f2=>cases f1;cases f2;exact ?k ⟨_,_,_,_,rfl,rfl,?e eb,?e eb',q2.refl⟩
 | 3,f1,f2=>cases f1;cases f2;exact ?k ⟨_,_,_,_,rfl,rfl,?e ec,?e ec',q3.refl⟩
 | j+4,f1,f2=>simp at f1
noncomputable def kF(X:Hp)(c:Addr):Prop:=∃m,X c=?vF m/\nd m/\XX m
noncomputable def T5(B X:Hp)(us:?f):Prop:=∀v∈us,∃t c1 c2 c3 n,?gG/\(B c1=none/\B c2=none/\B c3=none)/\X t=?c (?A [?aX,?g c1,?g c2,?g c3])/\kF X c1/\kF X c2/\kF X c3
theorem kF.same{X X':Hp}{c:Addr}(h:kF X c)(s:?qF):kF X' c:=let ⟨m,h1,h2⟩:=h;⟨m,?i3,h2⟩
theorem T5.same{B X X':Hp}[?fG](h:?pL)(s:?qF):T5 B X' us:=fun v hv =>
 let ⟨t,c1,c2,c3,n,e,b,h1,d1,d2,d3⟩:=h v hv
 ⟨t,c1,c2,c3,n,e,b,?i3,d1.same s,d2.same s,d3.same s⟩
theorem kF.put{X:Hp}{c d:Addr}{m:Ms}(h:kF X d)(hn:nd m)(hk:XX m):kF (upd X c (.dK (cK m))) d:=by
 by_cases z:d=c
 . subst z;exact⟨m,Ab,hn,hk⟩
 . obtain⟨m',h1,h2⟩:=h;exact⟨m',?wH z,h2⟩
theorem T5.put{B X:Hp}[?fG]{c:Addr}{m:Ms}(h:?pL)(hc:kF X c)(hn:nd m)(hk:XX m):T5 B (upd X c (.dK (cK m))) us:=fun v hv=>by
 obtain⟨t,c1,c2,c3,n,e,b,h1,d1,d2,d3⟩:=h v hv;obtain⟨m',hc',_⟩:=hc;exact⟨t,c1,c2,c3,n,e,b,by rw[Aj fun z=>by rw[z,hc']at h1;cases h1];exact h1,d1.put hn hk,d2.put hn hk,d3.put hn hk⟩
theorem TL{ms:Ms}(h:XX ms)(v:Int):XX (putI ms 0 v):=fun p hp=>by
 rcases BW hp with q | rfl
 . exact h p q
 . exact⟨Int.le_refl 0,show ?aQ<40 by decide⟩
theorem XU{ms:Ms}(hn:?aU)(hk:XX ms):?kA:=by
 have:=Y3 (?X fun(p:?aA)=>p.1) (uO 40) hn fun x hx=>by
  obtain⟨p,hp,rfl⟩:=?V hx;have:=hk p hp;ext uQ
 rwa [qa4,BF]at this
noncomputable def Mu(B O H:Hp):Hp:=fun c=>if ?tD/\?q9 then none else H c
theorem tG{B O H:Hp}(s:?u B H):?u B (Mu B O H):=fun c o e=>by
 unfold Mu;rw[?y fun z=>by rw[z.1]at e;cases e];exact ?kW
theorem HD{B O H:Hp}:?u (Mu B O H) H:=fun c o e=>by
 unfold Mu at e;split at e
 . cases e
 . exact e
theorem AN{B O H:Hp}{c:Addr}(h:?cJ):?q3=H c:=?y fun z=>z.2 h
theorem LK{B O H:Hp}{c:Addr}(h:?tD)(ho:?q9):?q3=none:=?F ⟨h,ho⟩
theorem Hn{S:St}{p0:?H}[?n](k:∀H,p0 H->?rY):?vC (σ=S/\p0 H):=by
 rintro _ H ⟨rfl,h0⟩;exact k H h0
theorem IT{S:St}{p0 p1:?H}[?n](k:∀H,p0 H->p1 H->?rY):?vC (E4 (σ=S) (p0 H) (p1 H)):=by
 rintro _ H ⟨rfl,h0,h1⟩;exact k H h0 h1
theorem Ab8[?a1]{p0:?c2}[?n](k:∀x0 H,?cO->?d5):?vC (Es fun x0=>?eS/\p0 x0 H):=by
 rintro _ H ⟨x0,rfl,h0⟩;exact k x0 H h0
theorem Xm[?a1]{p0 p1:?c2}[?n](k:∀x0 H,?cO->?eB->?d5):?vC (?y4 ?cH ?e0):=by
 rintro _ H ⟨x0,rfl,h0,h1⟩;exact k x0 H h0 h1
theorem Vs[?a1]{p0 p1 p2:?c2}[?n](k:∀x0 H,?cO->?eB->?h6->?d5):?vC (Es fun x0=>B6 ?aW ?cH ?e0 ?i9):=by
 rintro _ H ⟨x0,rfl,h0,h1,h2⟩;exact k x0 H h0 h1 h2
theorem Ab7[?a1]{p0 p1 p2 p3:?c2}[?n](k:∀x0 H,?cO->?eB->?h6->?kL->?d5):?vC (Es fun x0=>Dp ?aW ?cH ?e0 ?i9 (p3 x0 H)):=by
 rintro _ H ⟨x0,rfl,h0,h1,h2,h3⟩;exact k x0 H h0 h1 h2 h3
theorem Ab6[?a1]{p0 p1 p2 p3 p4:?c2}[?n](k:∀x0 H,?cO->?eB->?h6->?kL->?nI->?d5):?vC (Es fun x0=>K8 ?aW ?cH ?e0 ?i9 (p3 x0 H) ?qO):=by
 rintro _ H ⟨x0,rfl,h0,h1,h2,h3,h4⟩;exact k x0 H h0 h1 h2 h3 h4
theorem iT[?a1]{p0 p1 p2 p3 p4 p5:?c2}[?n](k:∀x0 H,?cO->?eB->?h6->?kL->?nI->p5  x0 H->?d5):?vC (Es fun x0=>M9 ?aW ?cH ?e0 ?i9 (p3 x0 H) ?qO (p5 x0 H)):=by
 rintro _ H ⟨x0,rfl,h0,h1,h2,h3,h4,h5⟩;exact k x0 H h0 h1 h2 h3 h4 h5
theorem IS[?aF]{p0:?h8}[?n](k:∀x0 x1 H,?fX->?g6):?vC (Ij fun x0 x1=>?dW/\?fH):=by
 rintro _ H ⟨x0,x1,rfl,h0⟩;exact k x0 x1 H h0
theorem mV[?aF]{p0 p1:?h8}[?n](k:∀x0 x1 H,?fX->?jB->?g6):?vC (Ij fun x0 x1=>E4 ?d8 (?fH) (?xV p1)):=by
 rintro _ H ⟨x0,x1,rfl,h0,h1⟩;exact k x0 x1 H h0 h1
theorem iR[?aF]{p0 p1 p2 p3:?h8}[?n](k:∀x0 x1 H,?fX->?jB->?oA->?q5->?g6):?vC (Ij fun x0 x1=>Dp ?d8 (?fH) (?xV p1) (?xV p2) (?xV p3)):=by
 rintro _ H ⟨x0,x1,rfl,h0,h1,h2,h3⟩;exact k x0 x1 H h0 h1 h2 h3
theorem Ab5[?aF]{p0 p1 p2 p3 p4 p5 p6:?h8}[?n](k:∀x0 x1 H,?fX->?jB->?oA->?q5->?wK p4->?wK p5->?wK p6->?g6):?vC (Ij fun x0 x1=>d8 ?d8 (?fH) (?xV p1) (?xV p2) (?xV p3) (?xV p4) (?xV p5) (?xV p6)):=by
 rintro _ H ⟨x0,x1,rfl,h0,h1,h2,h3,h4,h5,h6⟩;exact k x0 x1 H h0 h1 h2 h3 h4 h5 h6
theorem UM[?aZ]{p0 p1:?eW}[?n](k:∀x0 x1 x2 H,?eY->?eL->?eP):?vC (Qt fun x0 x1 x2=>E4 ?bL ?eD ?eV):=by
 rintro _ H ⟨x0,x1,x2,rfl,h0,h1⟩;exact k x0 x1 x2 H h0 h1
theorem Ab4[?aZ]{p0 p1 p2:?eW}[?n](k:∀x0 x1 x2 H,?eY->?eL->?hC->?eP):?vC (Qt fun x0 x1 x2=>B6 ?bL ?eD ?eV ?fS):=by
 rintro _ H ⟨x0,x1,x2,rfl,h0,h1,h2⟩;exact k x0 x1 x2 H h0 h1 h2
theorem Ab3[?aZ]{p0 p1 p2 p3:?eW}[?n](k:∀x0 x1 x2 H,?eY->?eL->?hC->?jN->?eP):?vC (Qt fun x0 x1 x2=>Dp ?bL ?eD ?eV ?fS (?xR p3)):=by
 rintro _ H ⟨x0,x1,x2,rfl,h0,h1,h2,h3⟩;exact k x0 x1 x2 H h0 h1 h2 h3
theorem uM[?aZ]{p0 p1 p2 p3 p4:?eW}[?n](k:∀x0 x1 x2 H,?eY->?eL->?hC->?jN->?r6->?eP):?vC (Qt fun x0 x1 x2=>K8 ?bL ?eD ?eV ?fS (?xR p3) (?xR p4)):=by
 rintro _ H ⟨x0,x1,x2,rfl,h0,h1,h2,h3,h4⟩;exact k x0 x1 x2 H h0 h1 h2 h3 h4
theorem Ab2[?aZ]{p0 p1 p2 p3 p4 p5:?eW}[?n](k:∀x0 x1 x2 H,?eY->?eL->?hC->?jN->?r6->?w2 p5->?eP):?vC (Qt fun x0 x1 x2=>M9 ?bL ?eD ?eV ?fS (?xR p3) (?xR p4) (?xR p5)):=by
 rintro _ H ⟨x0,x1,x2,rfl,h0,h1,h2,h3,h4,h5⟩;exact k x0 x1 x2 H h0 h1 h2 h3 h4 h5
theorem Ab1[?f6]{p0:?lA}[?n](k:∀x0 x1 x2 x3 H,?kK->?iW):?vC (T7 fun x0 x1 x2 x3=>?eG/\?l5):=by
 rintro _ H ⟨x0,x1,x2,x3,rfl,h0⟩;exact k x0 x1 x2 x3 H h0
theorem Ab0[?f6]{p0 p1 p2:?lA}[?n](k:∀x0 x1 x2 x3 H,?kK->?rW->?tJ->?iW):?vC (T7 fun x0 x1 x2 x3=>B6 (?eG) (?l5) (?xQ p1) (?xQ p2)):=by
 rintro _ H ⟨x0,x1,x2,x3,rfl,h0,h1,h2⟩;exact k x0 x1 x2 x3 H h0 h1 h2
theorem Aa9[?f6]{p0 p1 p2 p3 p4:?lA}[?n](k:∀x0 x1 x2 x3 H,?kK->?rW->?tJ->?vZ p3->?vZ p4->?iW):?vC (T7 fun x0 x1 x2 x3=>K8 (?eG) (?l5) (?xQ p1) (?xQ p2) (?xQ p3) (?xQ p4)):=by
 rintro _ H ⟨x0,x1,x2,x3,rfl,h0,h1,h2,h3,h4⟩;exact k x0 x1 x2 x3 H h0 h1 h2 h3 h4
theorem Aa8[?iH]{p0 p1 p2:A0->A1->A2->A3->A4->?H}[?n](k:∀x0 x1 x2 x3 x4 H,?wT p0->?wT p1->?wT p2->let s:=(?cX);?aD):?vC (z8 fun x0 x1 x2 x3 x4=>B6 (σ=?cX) (?xT p0 H) (?xT p1 H) (?xT p2 H)):=by
 rintro _ H ⟨x0,x1,x2,x3,x4,rfl,h0,h1,h2⟩;exact k x0 x1 x2 x3 x4 H h0 h1 h2
theorem Aa7{A0 A1 A2 A3 A4 A5:Type}{S:A0->A1->A2->A3->A4->A5->St}{p0 p1 p2 p3:A0->A1->A2->A3->A4->A5->?H}[?n](k:∀x0 x1 x2 x3 x4 x5 H,?vW p0->?vW p1->?vW p2->?vW p3->let s:=(?pY);?aD):?vC (zG fun x0 x1 x2 x3 x4 x5=>Dp (σ=?pY) (?xS p0) (?xS p1) (?xS p2) (?xS p3)):=by
 rintro _ H ⟨x0,x1,x2,x3,x4,x5,rfl,h0,h1,h2,h3⟩;exact ?wN H
theorem Aa6[?lX]{p0 p1 p2:?vR ?H}[?n](k:∀x0 x1 x2 x3 x4 x5 x6 x7 H,?sU->?r2->?p0->?rM):∀σ H,(vZ fun x0 x1 x2 x3 x4 x5 x6 x7=>B6 (σ=?f3) (?vB p0) (?vB p1) (?vB p2))->?l:=by
 rintro _ H ⟨x0,x1,x2,x3,x4,x5,x6,x7,rfl,h0,h1,h2⟩;exact k x0 x1 x2 x3 x4 x5 x6 x7 H h0 h1 h2
theorem UL[?lX]{p0 p1 p2 p3 p4 p5 p6 p7:?vR ?H}[?n](k:∀x0 x1 x2 x3 x4 x5 x6 x7 H,?sU->?r2->?p0->?vD p3->?vD p4->?vD p5->?vD p6->?vD p7->?rM):∀σ H,(vZ fun x0 x1 x2 x3 x4 x5 x6 x7=>fW (σ=?f3) (?vB p0) (?vB p1) (?vB p2) (?vB p3) (?vB p4) (?vB p5) (?vB p6) (?vB p7))->?l:=by
 rintro _ H ⟨x0,x1,x2,x3,x4,x5,x6,x7,rfl,h0,h1,h2,h3,h4,h5,h6,h7⟩;exact k x0 x1 x2 x3 x4 x5 x6 x7 H h0 h1 h2 h3 h4 h5 h6 h7
theorem Aa5{A0 A1 A2 A3 A4 A5 A6 A7 A8:Type}{S:?wD St}{p0 p1 p2:?wD ?H}[?n](k:∀x0 x1 x2 x3 x4 x5 x6 x7 x8 H,?vV p0->?vV p1->?vV p2->let s:=(?nU);?aD):?vC (Ex9 fun x0 x1 x2 x3 x4 x5 x6 x7 x8=>B6 (σ=?nU) (?xP p0 H) (?xP p1 H) (?xP p2 H)):=by
 rintro _ H ⟨x0,x1,x2,x3,x4,x5,x6,x7,x8,rfl,h0,h1,h2⟩;exact k x0 x1 x2 x3 x4 x5 x6 x7 x8 H h0 h1 h2
theorem WD{A0 A1 A2 A3 A4 A5 A6 A7 A8 A9:Type}{S:?w5 St}{p0 p1 p2 p3:?w5 ?H}[?n](k:∀x0 x1 x2 x3 x4 x5 x6 x7 x8 x9 H,?vJ p0->?vJ p1->?vJ p2->?vJ p3->let s:=(?u6);?aD):∀σ H,(mP fun x0 x1 x2 x3 x4 x5 x6 x7 x8 x9=>Dp (σ=?u6) (?v9 p0 H) (?v9 p1 H) (?v9 p2 H) (?v9 p3 H))->?l:=by
 rintro _ H ⟨x0,x1,x2,x3,x4,x5,x6,x7,x8,x9,rfl,h0,h1,h2,h3⟩;exact k x0 x1 x2 x3 x4 x5 x6 x7 x8 x9 H h0 h1 h2 h3
theorem Kc{S:St}[?n]{H0:Hp}(k:let s:=S;G s H0):?vC (σ=S/\H0=H):=by
 rintro _ _ ⟨rfl,rfl⟩;exact k
theorem uN[?a1]{p0:?c2}[?n]{H0:Hp}(k:∀x0,p0  x0 H0->let s:=(S x0);G s H0):?vC (?y4 (H0=H) ?cH):=by
 rintro _ _ ⟨x0,rfl,rfl,h0⟩;exact k x0 h0
theorem ex2{A0 A1:Type}{p:?dT}{G:Prop}(k:∀x0 x1,p x0 x1->G)(h:∃x0 x1,p x0 x1):G:=h.elim fun x0 h=>h.elim fun x1 h=>k x0 x1 h
theorem Bb2{p0 p1 p2 G:Prop}(k:p0->p1->p2->G)(h:p0/\p1/\p2):G:=k h.1 h.2.1 h.2.2
section
variable{g:TG}{x:V}{t1 t2 t3 t4 t5 t6 t7 t8 t9 MP uQ ZI t13 t14:TS}{D:Ends}{σ:St}{H:Hp}
theorem tD{tc:St->?y9 Hp (?qW)}{k:?qW}(h:let k':=k;tc σ H k'):tc σ H k:=h
theorem letG1(h:let D':=D;?wV D'):?wV D:=h
theorem let2(h:let D':=D;let u2:TS:=t2;?oE):?xY t2 D:=h
theorem letG2(h:let D':=D;let u2:TS:=t2;?nY):?vI t2 D:=h
theorem let3(h:let D':=D;let u3:TS:=t3;?mG):?wP t3 D:=h
theorem letG3(h:let D':=D;let u3:TS:=t3;?nT):?vI (Ar t2 t3) D:=h
theorem let4(h:let D':=D;let u4:TS:=t4;?t9):?wP (Ar t3 t4) D:=h
theorem letG4(h:let D':=D;let u4:TS:=t4;?nD):?vI (Ar t2 (Ar t3 t4)) D:=h
theorem let5(h:let D':=D;let u5:TS:=t5;?rX):?wP (Ar t3 (Ar t4 t5)) D:=h
theorem letG5(h:let D':=D;let u5:TS:=t5;?mT):?xN (Ar t2 (Ar t3 (Ar t4 t5))):=h
theorem let6(h:let D':=D;let u6:TS:=t6;?tK):?xY (?v8 t6) D:=h
theorem letG6(h:let D':=D;let u6:TS:=t6;?mE):?xN (?v8 t6):=h
theorem let7(h:let D':=D;let u7:TS:=t7;?tW):?xY (?v8 (Ar t6 t7)) D:=h
theorem letG7(h:let D':=D;let u7:TS:=t7;?mF):?xN (?v8 (Ar t6 t7)):=h
theorem let8(h:let D':=D;let u8:TS:=t8;?p9):?xY (?v8 (?yF t8)) D:=h
theorem letG8(h:let D':=D;let u8:TS:=t8;?rK):?xN (?v8 (?yF t8)):=h
theorem let9(h:let D':=D;let u9:TS:=t9;?pK):?xM t9:=h
theorem letG9(h:let D':=D;let u9:TS:=t9;?rO):?xN (?v8 (?yF (Ar t8 t9))):=h
theorem let10(h:let D':=D;let mW:TS:=MP;?qQ):?xM (Ar t9 MP):=h
theorem letG10(h:let D':=D;let mW:TS:=MP;let u9:TS:=?oV;?rO):?xN (?v8 (?yF (Ar t8 (Ar t9 MP)))):=h
theorem let11(h:let D':=D;let WH:TS:=uQ;?mA):?xM (Ar t9 (Ar MP uQ)):=h
theorem let12(h:let D':=D;let u12:TS:=ZI;?mH):?xM (?yC ZI):=h
theorem let13(h:let D':=D;let u13:TS:=t13;?qB):?xM (?yC (Ar ZI t13)):=h
theorem let14(h:let D':=D;let u14:TS:=t14;let u13:TS:=Ar t13 u14;?qB):?xM (?yC (Ar ZI (Ar t13 t14))):=h
universe e9
universe Hb
local macro_rules|`(tactic|infer_instance)=>`(tactic|first|(refine Hb.let14 ?_;intro _ _ _ _ _ _ _ _ _ _ _ _ _ _)|(refine Hb.let13 ?_;intro _ _ _ _ _ _ _ _ _ _ _ _ _)|(refine Hb.let12 ?_;intro _ _ _ _ _ _ _ _ _ _ _ _)|(refine Hb.let11 ?_;intro _ _ _ _ _ _ _ _ _ _ _)|(refine Hb.let10 ?_;intro _ _ _ _ _ _ _ _ _ _)|(refine Hb.let9 ?_;intro _ _ _ _ _ _ _ _ _)|(refine Hb.let8 ?_;intro _ _ _ _ _ _ _ _)|(refine Hb.let7 ?_;intro _ _ _ _ _ _ _)|(refine Hb.let6 ?_;intro _ _ _ _ _ _)|(refine Hb.let5 ?_;intro _ _ _ _ _)|(refine Hb.let4 ?_;intro _ _ _ _)|(refine Hb.let3 ?_;intro _ _ _)|(refine Hb.let2 ?_;intro _ _))
local macro_rules|`(tactic|and_intros)=>`(tactic|first|(refine Hb.letG10 ?_;intro _ _ _ _ _ _ _ _ _ _)|(refine Hb.letG9 ?_;intro _ _ _ _ _ _ _ _ _)|(refine Hb.letG8 ?_;intro _ _ _ _ _ _ _ _)|(refine Hb.letG7 ?_;intro _ _ _ _ _ _ _)|(refine Hb.letG6 ?_;intro _ _ _ _ _ _)|(refine Hb.letG5 ?_;intro _ _ _ _ _)|(refine Hb.letG4 ?_;intro _ _ _ _)|(refine Hb.letG3 ?_;intro _ _ _)|(refine Hb.letG2 ?_;intro _ _)|(refine Hb.letG1 ?_;intro _))
namespace Hb
open PySem L2
theorem Pn[?a1]{p0:?h7}[?w](k:∀x0,?bE->?eH):?vE (Es fun x0=>?eS/\?bE):=by
 rintro _ ⟨x0,rfl,h0⟩;exact k x0 h0
theorem vH[?a1]{p0 p1:?h7}[?w](k:∀x0,?bE->?cY->?eH):?vE (?y4 (?bE) (?cY)):=by
 rintro _ ⟨x0,rfl,h0,h1⟩;exact k x0 h0 h1
theorem VG[?a1]{p0 p1 p2:?h7}[?w](k:∀x0,?bE->?cY->?gI->?eH):?vE (Es fun x0=>B6 ?aW (?bE) (?cY) (?gI)):=by
 rintro _ ⟨x0,rfl,h0,h1,h2⟩;exact k x0 h0 h1 h2
theorem Lg[?a1]{p0 p1 p2:Prop}[?w](k:p0->p1->p2->?tZ):?vE (?y2 (Es fun x0=>?eS)):=by
 rintro _ ⟨h0,h1,h2,x0,rfl⟩;exact k h0 h1 h2 x0
theorem OT[?a1]{p0 p1 p2 p3:Prop}[?w](k:p0->p1->p2->p3->?tZ):?vE (Dp (p0) (p1) (p2) (p3) (Es fun x0=>?eS)):=by
 rintro _ ⟨h0,h1,h2,h3,x0,rfl⟩;exact k h0 h1 h2 h3 x0
theorem Ai4[?a1]{p0 p1 p2 p3 p4 p5 p6:?h7}[?w](k:∀x0,?bE->?cY->?gI->p3 x0->p4 x0->p5 x0->p6 x0->?eH):?vE (Es fun x0=>d8 ?aW (?bE) (?cY) (?gI) (p3 x0) (p4 x0) (p5 x0) (p6 x0)):=by
 rintro _ ⟨x0,rfl,h0,h1,h2,h3,h4,h5,h6⟩;exact k x0 h0 h1 h2 h3 h4 h5 h6
theorem JI[?aF]{p0:?dT}[?w](k:∀x0 x1,?b4->?dV):?vE (Ij fun x0 x1=>?dW/\?b4):=by
 rintro _ ⟨x0,x1,rfl,h0⟩;exact k x0 x1 h0
theorem vG[?aF]{p0 p1:?dT}[?w](k:∀x0 x1,?b4->?d2->?dV):?vE (Ij fun x0 x1=>E4 ?d8 (?b4) (?d2)):=by
 rintro _ ⟨x0,x1,rfl,h0,h1⟩;exact k x0 x1 h0 h1
theorem Q1[?aF]{p0 p1 p2:?dT}[?w](k:∀x0 x1,?b4->?d2->?gZ->?dV):?vE (Ij fun x0 x1=>B6 ?d8 (?b4) (?d2) (?gZ)):=by
 rintro _ ⟨x0,x1,rfl,h0,h1,h2⟩;exact k x0 x1 h0 h1 h2
theorem VB[?aF]{p0 p1 p2:Prop}[?w](k:p0->p1->p2->?s4):?vE (?y2 (Ij fun x0 x1=>?dW)):=by
 rintro _ ⟨h0,h1,h2,x0,x1,rfl⟩;exact k h0 h1 h2 x0 x1
theorem VF[?aF]{p0 p1 p2 p3:?dT}[?w](k:∀x0 x1,?b4->?d2->?gZ->?rF->?dV):?vE (Ij fun x0 x1=>Dp ?d8 (?b4) (?d2) (?gZ) (?rF)):=by
 rintro _ ⟨x0,x1,rfl,h0,h1,h2,h3⟩;exact k x0 x1 h0 h1 h2 h3
theorem vB[?aF]{p0 p1 p2 p3:Prop}[?w](k:p0->p1->p2->p3->?s4):?vE (Dp (p0) (p1) (p2) (p3) (Ij fun x0 x1=>?dW)):=by
 rintro _ ⟨h0,h1,h2,h3,x0,x1,rfl⟩;exact k h0 h1 h2 h3 x0 x1
theorem vF[?aZ]{p0:?fY}[?w](k:∀x0 x1 x2,?bJ->?fV):?vE (Qt fun x0 x1 x2=>σ=?hH/\?bJ):=by
 rintro _ ⟨x0,x1,x2,rfl,h0⟩;exact k x0 x1 x2 h0
theorem VE[?aZ]{p0 p1:?fY}[?w](k:∀x0 x1 x2,?bJ->?cP->?fV):?vE (Qt fun x0 x1 x2=>E4 ?bL (?bJ) (?cP)):=by
 rintro _ ⟨x0,x1,x2,rfl,h0,h1⟩;exact k x0 x1 x2 h0 h1
theorem aM[?aZ]{p0 p1 p2:?fY}[?w](k:∀x0 x1 x2,?bJ->?cP->?gV->?fV):?vE (Qt fun x0 x1 x2=>B6 ?bL (?bJ) (?cP) (?gV)):=by
 rintro _ ⟨x0,x1,x2,rfl,h0,h1,h2⟩;exact k x0 x1 x2 h0 h1 h2
theorem vE[?aZ]{p0 p1 p2 p3 p4:?fY}[?w](k:∀x0 x1 x2,?bJ->?cP->?gV->?nX->?p1->?fV):?vE (Qt fun x0 x1 x2=>K8 ?bL (?bJ) (?cP) (?gV) (?nX) (?p1)):=by
 rintro _ ⟨x0,x1,x2,rfl,h0,h1,h2,h3,h4⟩;exact k x0 x1 x2 h0 h1 h2 h3 h4
theorem V6[?f6]{p0 p1 p2:A0->A1->?y9 A2 A3}[?w](k:∀x0 x1 x2 x3,?n1->?pR->?n8->?sO):?vE (T7 fun x0 x1 x2 x3=>B6 (?eG) (?n1) (?pR) (?n8)):=by
 rintro _ ⟨x0,x1,x2,x3,rfl,h0,h1,h2⟩;exact k x0 x1 x2 x3 h0 h1 h2
theorem Ai1[?f6]{p0 p1 p2:Prop}[?w](k:p0->p1->p2->∀x0 x1 x2 x3,?sO):?vE (?y2 (T7 fun x0 x1 x2 x3=>?eG)):=by
 rintro _ ⟨h0,h1,h2,x0,x1,x2,x3,rfl⟩;exact k h0 h1 h2 x0 x1 x2 x3
theorem Ai2[?iH]{p0:?j9}[?w](k:∀x0 x1 x2 x3 x4,?cL->?jT):?vE (z8 fun x0 x1 x2 x3 x4=>σ=?cX/\?cL):=by
 rintro _ ⟨x0,x1,x2,x3,x4,rfl,h0⟩;exact ?xT k h0
theorem VD[?iH]{p0 p1 p2:?j9}[?w](k:∀x0 x1 x2 x3 x4,?cL->?h0->?g5->?jT):?vE (z8 fun x0 x1 x2 x3 x4=>B6 (σ=?cX) (?cL) (?h0) (?g5)):=by
 rintro _ ⟨x0,x1,x2,x3,x4,rfl,h0,h1,h2⟩;exact k x0 x1 x2 x3 x4 h0 h1 h2
theorem vD[?iH]{p0 p1 p2 p3 p4 p5:?j9}[?w](k:∀x0 x1 x2 x3 x4,?cL->?h0->?g5->?qT->?mL->?u3->?jT):?vE (z8 fun x0 x1 x2 x3 x4=>M9 (σ=?cX) (?cL) (?h0) (?g5) (?qT) (?mL) (?u3)):=by
 rintro _ ⟨x0,x1,x2,x3,x4,rfl,h0,h1,h2,h3,h4,h5⟩;exact k x0 x1 x2 x3 x4 h0 h1 h2 h3 h4 h5
theorem VC{A0 A1 A2 A3 A4 A5 A6:Type}{S:A0->A1->A2->A3->A4->A5->A6->St}{p0 p1 p2 p3:A0->A1->A2->A3->A4->?y9 A5 A6}[?w](k:∀x0 x1 x2 x3 x4 x5 x6,?sR->?nJ->?q0->?rV->let s:=?oG;G s):?vE (uK fun x0 x1 x2 x3 x4 x5 x6=>Dp (σ=?oG) (?sR) (?nJ) (?q0) (?rV)):=by
 rintro _ ⟨x0,x1,x2,x3,x4,x5,x6,rfl,h0,h1,h2,h3⟩;exact ?wN x6
theorem vC[?lX]{p0 p1 p2 p3:A0->A1->A2->A3->A4->A5->?y9 A6 A7}[?w](k:∀x0 x1 x2 x3 x4 x5 x6 x7,?oP->?oO->?tX->?sI->let s:=?f3;G s):?vE (vZ fun x0 x1 x2 x3 x4 x5 x6 x7=>Dp (σ=?f3) (?oP) (?oO) (?tX) (?sI)):=by
 rintro _ ⟨x0,x1,x2,x3,x4,x5,x6,x7,rfl,h0,h1,h2,h3⟩;exact k x0 x1 x2 x3 x4 x5 x6 x7 h0 h1 h2 h3
theorem OV{A0 A1 A2 A3 A4 A5 A6 A7 A8 A9 kH:Type}{S:A0->A1->A2->A3->A4->A5->A6->A7->A8->A9->kH->St}{p0 p1 p2 p3 p4 p5 p6 p7 p8:A0->A1->A2->A3->A4->A5->A6->A7->A8->?y9 A9 kH}[?w](k:∀x0 x1 x2 x3 x4 x5 x6 x7 x8 x9 Rb,?r8->?qK->?n7->?oM->?sP->?oI->?qU->?n2->?mR->let s:=?tT;G s):∀σ,(iP fun x0 x1 x2 x3 x4 x5 x6 x7 x8 x9 Rb=>KG (σ=?tT) (?r8) (?qK) (?n7) (?oM) (?sP) (?oI) (?qU) (?n2) (?mR))->?v:=by
 rintro _ ⟨x0,x1,x2,x3,x4,x5,x6,x7,x8,x9,Rb,rfl,h0,h1,h2,h3,h4,h5,h6,h7,h8⟩;exact k x0 x1 x2 x3 x4 x5 x6 x7 x8 x9 Rb h0 h1 h2 h3 h4 h5 h6 h7 h8
universe Hb
namespace L2
open PySem PySem.Spec PyProof.Rows
section
variable[?lY]{base:Heap}{ds:?dX}
universe e9
universe L2
namespace L2
open PySem PySem.Spec PyProof.Rows PySem.W
section
variable[?v3]{sp:Sp}{m:Str}{pos apos:Pos}[?v4]
universe e9
section
variable{P:Program}{w:World}{K:Frag}{mg:?kC}{base:Heap}{ds:?dX}
universe e9
section
variable[?v3]{dvs:?f}{sp:Sp}{m x:Str}{p pos apos:Pos}[?v4]
universe e9
universe L2
namespace L2
open PySem PySem.Spec PyProof.Rows
noncomputable def Cw[?r](n:Str)(st:Stmt):Prop:=∃(f:Addr) (fd:FuncData),W.nsIn K ?r3 n=?c (?c (?g f))/\?o4
noncomputable def Td[?r](C:Addr)(n q:Str)(st:Stmt):Prop:=∃(f:Addr) (fd:FuncData),W.findIn K ?kR n=?c (?c (?g f))/\W.isFn K (?g f)=true/\?rH
noncomputable def BA(x q:Str)(st:Stmt)(ps:?j):Prop:=∀(kV doc pm:Value) (an:OAddr) (Dk ct:Value) (us:?dX),us.length=ps.length->bindArgs (W.fnOf x q (Ip st) (Gj st) (Au st) ?g9 kV doc pm an Dk ct) ⟨us,[]⟩=pure (ps.zip us)
section
variable[?lY]{base h:Heap}
theorem Br(X:K.In h)(G:h.Ns ?r3 mg){n:Str}[?m0](d:Cw K n st)(ok:∀{f fd},?o4->?jS)(hb:BA n n st ps):Has P w K mg ?C n ps k sp:=by
 obtain⟨f,fd,a,F⟩:=d;exact⟨_,_,qt9 X G a,F.kp,?l8,ok F⟩
theorem J7{C:Addr}{n q:Str}[?m0](d:Td K C n q st)(ok:∀{f fd},?rH->?jS)(hb:BA n q st ps):K5 P w K mg ?C C n ps k sp:=by
 obtain⟨f,fd,a,b,F⟩:=d;exact⟨_,_,⟨a,b,F.kp⟩,?l8,ok F⟩
theorem CF{C:Addr}{q:Str}[?m0](m:PySem.W.makesIn K C=true)(kc:W.keepIn K ?kR=true)(d:Td K C ?hM q st)(ok:∀{f fd},Er K ?hM q st f fd->?jS)(hb:BA ?hM q st ps):fV P w K mg ?C C ps k sp:=by
 obtain⟨f,fd,a,b,F⟩:=d;exact⟨_,_,⟨m,a,b,kc⟩,?l8,ok F⟩
universe e9
universe L2
namespace Hb
open PySem L2
noncomputable def top(i:Nat):Stmt:=PySem.Challenge.pw_holebook_k34_rounds_and_gauges.main.body.getD i (.Pass ⟨0,0,0,0⟩)
structure Ff[?r](mg:?kC)(Ag Ad Ah Ax:Addr):Prop where
 m_Lines:mg "Lines"=?c (?g Ag)
 cl_Lines:Cls K Ag
 na_Lines_rows:De K Ag ?hL
 na_Lines_backs:De K Ag ?fZ
 m_Stairs:mg "Stairs"=?c (?g Ad)
 cl_Stairs:Cls K Ad
 na_Stairs_rows:De K Ad ?hL
 na_Stairs_backs:De K Ad ?fZ
 na_Stairs_starts:De K Ad "starts"
 m_Work:mg "Work"=?c (?g Ah)
 cl_Work:Cls K Ah
 na_Work_table:De K Ah ?lE
 na_Work_width:De K Ah ?j0
 na_Work_left:De K Ah "left"
 na_Work_right:De K Ah "right"
 na_Work_numbers:De K Ah "numbers"
 m_Book:mg "Book"=?c (?g Ax)
 cl_Book:Cls K Ax
 na_Book_pieces:De K Ax ?nQ
 na_Book_levels:De K Ax ?sF
 na_Book_lifts:De K Ax "lifts"
 x_GAPS:∃a,?wG "GAPS" [32,16,8,4,2]
 x_FACE_COUNTS:∃a,?wG "FACE_COUNTS" [0,2,3,4]
 x_MOST_ROWS:∃t,mg "MOST_ROWS"=?c (?d 40 t)
 x_LEVELS:∃t,mg "LEVELS"=?c (?d 4 t)
 x_MOST_PIECES:∃t,mg "MOST_PIECES"=?c (?d 40 t)
 n_isinstance:?vT ?iS
 n_int:?vT "int"
 n_bool:?vT ?lU
 n_tuple:?vT "tuple"
 n_zip:?vT "zip"
 n_max:?vT "max"
 n_len:?vT "len"
 n_all:?vT "all"
 n_range:?vT "range"
 n_dict:?vT "dict"
 n_any:?vT "any"
 n_list:?vT ?g8
 n_enumerate:?vT ?dG
 n_min:?vT "min"
noncomputable def PV[?m1]:?q:=(ns.drop (?t5)).take (HT.sIx ?lC ?lC hi-?t5)
theorem PU[?m1]:Ju (ns.map ?Y) lo hi=(?p2).map ?Y:=by
 unfold Ju PV;rw[qa4,qp2,qp3]
theorem pV[?m1]:(?p2).length<=ns.length:=by
 unfold PV;rw[qc9,qi6];omega
theorem OJ:([?aI]:?j).Nodup:=?i
theorem UZ:(?tC:?j).Nodup:=?i
theorem Ah1:(["face",?cG,"level"]:?j).Nodup:=?i
theorem uZ:([?bC,?aI,?cG,"k"]:?j).Nodup:=?i
theorem Ah0:(["k",?cG,"thing"]:?j).Nodup:=?i
theorem UY:(?r0:?j).Nodup:=?i
theorem uY:([?bC,"piece","k"]:?j).Nodup:=?i
theorem OG:([?bZ,?j0]:?j).Nodup:=?i
theorem Ag9:([?bZ,?i2,?j0]:?j).Nodup:=?i
theorem xN:(["j",?lE]:?j).Nodup:=?i
theorem XM:(?oJ:?j).Nodup:=?i
theorem xM:(["i","size"]:?j).Nodup:=?i
theorem xK:(?q7:?j).Nodup:=?i
theorem oJ:(?n9:?j).Nodup:=?i
theorem xJ:([?bC,"below",?cG]:?j).Nodup:=?i
theorem XI:(?tH:?j).Nodup:=?i
theorem OI:([?bC,?aI]:?j).Nodup:=?i
theorem OH:([?bZ,"paper"]:?j).Nodup:=?i
theorem oH:(["j",?aI,"i"]:?j).Nodup:=?i
theorem XH:(["parts"]:?j).Nodup:=?i
theorem BU:(["order","loop","gauge","filling"]:?j).Nodup:=?i
theorem xH:(["part"]:?j).Nodup:=?i
theorem XG:(?iE:?j).Nodup:=?i
theorem xG:(["_law_letter"]:?j).Nodup:=?i
theorem XF:(["_law_i",?q1]:?j).Nodup:=?i
theorem xF:([?q1,"_law_family",?sC]:?j).Nodup:=?i
theorem XE:(["_law_face",?sC]:?j).Nodup:=?i
theorem xE:(["_law_hole"]:?j).Nodup:=?i
section
variable[?lY]{base:Heap}{Ag Ad Ah Ax:Addr}
noncomputable abbrev Rn:Stmt:=top 2
theorem dX:?O ?cR ?cR (Au Rn):=Bh
theorem EG[?S](F:Er K ?oC ?oC Rn f fd)[?R] :?vA ?cR Iv:=by
 refine ?x0 dX;obtain⟨x,d,rfl,hx,k⟩:=h;refine(?xO (Ly (?vL (Gh (v:=.ty "int") rfl T.n_int boot_intT rfl)) (Nq (nV (?vL (Gh (v:=.ty ?lU) rfl T.n_bool Z3 rfl))))));refine(?x3 ?e rfl);refine ite2 (?kV) (?kV)
 . refine(?x3 ?k (?e rfl));have e2:Kd d=!jK ?lU d:=by unfold Kd;rw[e];rfl
   rw[e2]at k;exact k
 . have e2:Kd d=false:=by unfold Kd;simp[e]
   rw[e2]at k;exact k
noncomputable abbrev Hy:Stmt:=top 4
theorem Cs:?O ["one",?i2,"last","now",?t7,"rest"] ?nF (Au Hy):=Bh
theorem S8[?S](F:Er K ?pF ?pF Hy f fd)[?R] :?vA ?nF V2:=by
 refine ?x0 Cs;obtain⟨n,p,rfl,hA,hB,lA,lB,k⟩:=h
 refine⟨_,(Af (?w3 2 (?y6 ?o))
  (Af (?w3 3 (?y6 ?z))
  (Af (S4 qb6 (?xI Iy (?xW ?aE)) (Af (?w3 4 (Bq Kq (?xW ?a0) (?xW ?aE)))
  (Af (Av (i:=5) ?cS (?y0 (Cc (N':=?tC) (cap:=[none,none,?c 4]) ?x ?c6 (?wL rX ?a0) (?vG (?yA UZ (?yH 1 UZ))) ?c7 (?vG (Bq Jn ?o (Bq ?fK ?a0 ?z))))))
  (Af (?w3 2 ?aE)
  (Ai (?w3 3 (pv 5)))))))
  (Af (B9 (?xI Pc (?xW ?a0)) (?yD (?y0 (Cc (N':=[?aI]) (cap:=[none]) ?x ?c6 (Qc (K:=K) ?a0) (?vG (?yH 0 OJ)) ?c7 (?vG (Mn Ht ?o))))) Bo)
  (?yD ?a0))))),?_⟩
 ext cA
 refine⟨_,rfl,?i6,fun L0 hL0=>?_⟩;have s0:?u H (?vX 0):=?a8 hL0;refine⟨_,rfl,?i6,fun N0 hN0=>?_⟩;have s1:?u (?vX 0) (?oW):=?a8 hN0;refine El (fun σ' H'=>σ'=[iS n,iS p,rS L0,rS N0,none,none]/\H'=?oW) ?_ ?r7;rintro _ _ ⟨rfl,rfl⟩;refine qw7 (fun σ' H'=>Ex9 fun ?j6 (a x y u v:Int) ?kM=>B6 ?r1 (?I) (Dl K H' L ?f1) (?xJ a 0)) (fun key=>?_) ?_
 . refine⟨fun m σ G=>mP fun ?j6 (a x y b u v:Int) ?kM=>d8 (σ=?mX) ?sD (Dl K G L ?f1) (Dl K G N ?jR) (?xJ a b) (a.natAbs<L9) (b.natAbs<L9) (m=b.natAbs),⟨_,L0,N0,n,1,0,p,0,1,?aH,?aH,rfl,s0.trans s1,.of (s1 _ _ Ab),?eZ,Lat.EuI.start hA hB,lA,lB,rfl⟩,?_⟩;rintro m σ G C3;refine tD ?_;intro _;obtain⟨L,N,a,x,y,b,u,v,o4,o5,rfl,s2,hL,hN,hE,la,lb,rfl⟩:=C3;refine(?w7 N hN);ext dH
   . have hb0:¬b=0:=?M
     obtain⟨YK,hlt⟩:=hE.step hA hb0;obtain⟨_,_,_,_,lu,lv⟩:=hE.all hA hB
     have lq:?oF<L9:=by
      refine qb8 ?_ la;have h3:(?T*b).natAbs<=a.natAbs+(a-?T*b).natAbs:=O9m
      rw[qb1]at h3;have h4:0<b.natAbs:=Int.natAbs_pos.mpr hb0;refine qg2 fun h5=>?_;have h6:=qb7 b.natAbs (show a.natAbs+1<=?oF from h5);rw[qf5,qf2]at h6;have h7:=qe3 a.natAbs h4;omega
     have ok:∀z:Int,z.natAbs<L9->?dA (?T) z:=fun z hz=>bW lq hz;refine⟨fun σ' G'=>mP fun ?j6 (a' x y b' u v:Int) ?kM=>d8 ?r1 (?qP) (Dl K G' L [?d a',?d x,?d y]) (Dl K G' N [?d b',?d u,?d v]) (?xJ a' b') (a'.natAbs<L9) (b'.natAbs<L9) (b'.natAbs<b.natAbs),?_,?_⟩
     . rintro σ' G' ⟨L',N',a',x',y',b',u',v',o4',o5',rfl,q1,q2,q3,q4,q5,q6,q7⟩;exact⟨b'.natAbs,q7,L',N',a',x',y',b',u',v',o4',o5',rfl,q1,q2,q3,q4,q5,q6,rfl⟩
     refine⟨_,rfl,L,_,_,_,rfl,rfl,hL,rfl,_,rfl,N,_,_,_,rfl,rfl,hN,rfl,_,_,rfl,rfl,Vr.of9 hb0 lb,?_⟩;refine⟨_,rfl,_,rfl,L,N,rfl,?pS,⟨_,hN⟩,?bS⟩
     have gv:∀(i:Nat) (e f:V),?xK ?f1 e->?xK ?jR f->∃e' f':Int,e=?d e'/\f=?d f'/\?dA (?T) f'/\i<3 ∧
      ?xK ?gO (?d (e'-?T*f')):=by
      intro i e f he hf
      match i,he,hf with
      | 0,he,hf=>cases he;cases hf;exact⟨a,b,rfl,rfl,ok _ lb,?aJ,rfl⟩
      | 1,he,hf=>cases he;cases hf;exact⟨x,u,rfl,rfl,?mS,?aJ,rfl⟩
      | 2,he,hf=>cases he;cases hf;exact⟨y,v,rfl,rfl,?mS,?aJ,rfl⟩
      | i+3,he,hf=>simp at he
     refine iF (K:=K) (a:=L) (b:=N) (xs:=?f1) (ys:=?jR) (n:=3) ?jW (?yB ?gO (?wY [o1,o2,?c (?d (?T))]))
      ?rL (fun i zs τ G1 _ hz=>by obtain⟨s3,_⟩:=hz;exact⟨s3.seqT hL,s3.seqT hN⟩) ?_ ?_
     . rintro i e f zs τ G1 pr he hf C3 hpr;revert τ;refine VB ?_;intro s3 AR hzs o1 o2 Ei;obtain⟨e',f',rfl,rfl,hok,hi3,hnext⟩:=gv i e f he hf;have sp:?u G1 (upd G1 pr (?A [?d e',?d f'])):=?a8 hpr;ext uR;refine⟨_,rfl,_,rfl,_,rfl,_,_,rfl,rfl,hok,_,_,rfl,rfl,?_⟩;refine⟨sp _ _ AR,?eE (by rw[hzs,qc9];omega),(?nM sp).turn hD,Ab,?_,_,_,rfl⟩;rw[qf7,hnext,hzs];rfl
     . ext u9;have YA:zs=?gO:=hzs;have hT2:Dl K (upd G1 T1 (?A zs)) T1 ?gO:=?sS
       exact⟨_,rfl,_,rfl,N,T1,b,u,v,a-?T*b,x-?T*u,y-?T*v,_,_,rfl,(s2.trans s3).trans s4,(?nM s4).seqT hN,hT2,YK,lb,qt5 hlt lb,hlt⟩
   . have hb0:b=0:=?M
     subst hb0;exact key _ _ ⟨L,N,a,x,y,u,v,o4,o5,rfl,s2,hL,hE⟩
 refine Aa5 fun L N a x y u v o4 o5 G s2 hL hE=>?_;intro sq;obtain⟨e1,e2,e3⟩:=hE.last hA hB;refine⟨_,rfl,L,_,_,_,rfl,rfl,hL,rfl,_,_,rfl,rfl,_,rfl,?_⟩;ext dH
 . have ha:a<0:=?M
   refine(?x4 L ?pS)
   let Pq1:?e3:=?yB ?lP (Es fun o1=>τ=[o1])
   refine Vj (K:=K) (a:=L) (xs:=?f1) Pq1
    ?h9 (fun i zs τ G1 _ hz=>by obtain⟨s3,_⟩:=hz;exact s3.seqT hL) ?_ ?_
   . rintro i e zs τ G1 he C3;ext iM;intro s3 AR hzs o1 Ei
     have gv:∃e':Int,e=?d e'/\i<3/\?xK ?lP (?d (-e')):=by
      match i,he with
      | 0,he=>cases he;exact(?xC a)
      | 1,he=>cases he;exact(?xC x)
      | 2,he=>cases he;exact(?xC y)
      | i+3,he=>simp at he
     obtain⟨e',rfl,hi3,hnext⟩:=gv;refine⟨_,rfl,_,rfl,AR,?eE (by rw[hzs,qc9];omega),s3.turn hD,Ab,?_,_,rfl⟩;rw[qf7,hnext,hzs];rfl
   . ext u9;have YA:zs=?lP:=hzs;exact k T1 (-a) (-x) (-y) _ ((s2.trans s3).trans s4) (?sS) (e2 ha)
 . have ha:¬a<0:=?M
   exact⟨_,rfl,k L a x y G s2 hL (e1 O9m)⟩
noncomputable abbrev Rm:Stmt:=top 7
theorem DW:?O ?iE ?iE (Au Rm):=Bh
theorem eG[?S](F:Er K ?o3 ?o3 Rm f fd)[?R] :?vA ?iE Gu:=by
 refine ?x0 DW;obtain⟨x,ds,rfl,hx,k⟩:=h;refine(?xO (Bc (aY ?x) T.n_max AY (Aa (Bq Jn (?vQ ?o) Ak) (Aa Ak Ae))))
 obtain⟨p,us,e,hq,hl⟩:∃(p:Addr) (us:?f),x=?hS/\(?wI p us\/Dl K H p us)/\us.length=ds.length:=by
  rcases hx with⟨p,us,e,hq,r⟩|⟨p,us,e,hq,r⟩
  . exact⟨p,us,e,?e hq,?j4⟩
  . exact⟨p,us,e,?k hq,?j4⟩
 subst e;refine⟨_,rfl,p,us,rfl,hq,_,_,rfl,rfl,_,_,rfl,?_⟩;rw[hl];exact k
noncomputable abbrev Lo:Stmt:=top 10
theorem Ki:?O [?cG,"faces","j","i"] ?oK (Au Lo):=Bh
theorem Yl[?S](F:Er K ?mO ?mO Lo f fd)[?R] :?vA ?oK Ov:=by
 refine ?x0 Ki;obtain⟨a,v,xs,p,rfl,hL,hv,Qd,hf,k⟩:=h;obtain⟨pa,rfl,hq⟩:=hv.sq;have hpl:(p.map ?Y).length=p.length:=qa4 ..
 refine⟨_,(Af (B8 qb6 rfl (?yG (?vQ ?z)) (?yH 2 Ki.nd) (Ai (B8 qb6 rfl (?yG ?a0) (?yH 3 Ki.nd) (Ai (B9 (Bf Iy (Ba ?aY (?wC ?a0) ?aE ?Z) (Ba ?aY (?wC ?aE) (Bq Jn ?a0 Ak) ?Z) ?aT) (?yD E5) Bo)))))
  (?yD E5)),?_⟩
 ext cA
 refine⟨_,rfl,pa,_,rfl,?k hq,_,rfl,O9m,O9m,?_⟩;rw[hpl]
 let Pq2:?hA:=fun j σ H2=>E4 (H=H2) ((∃o2 o3,σ=[rS a,rS pa,o2,o3])) (∀j' i',j'<j->i'<j'->Ty xs p j' i'=true)
 refine Ck (lo:=0) (n:=((p.length:Nat):Int).toNat) Pq2
  ⟨rfl,⟨?aH,?aH,rfl⟩,fun j' i' h=>?tR⟩ ?_ ?_
 . rintro j σ H2 hj C3
   and_intros
   obtain⟨rfl,⟨o2,o3,rfl⟩,hall⟩:=C3;have hj':?rC:=O9m
   refine⟨_,rfl,_,rfl,O9m,O9m,?_⟩
   let Pq3:?hA:=fun i σ H2=>E4 (H=H2) ((∃o3,σ=[rS a,rS pa,?c (?d (0+j)),o3])) (∀i',i'<i->Ty xs p j i'=true)
   refine Ck (lo:=0) (n:=?tV) Pq3
    ⟨rfl,?eI,fun i' h=>?tR⟩ ?_ ?_
   . rintro i σ H2 hi C3
     and_intros
     obtain⟨rfl,⟨o3,rfl⟩,hall2⟩:=C3;have hij:i<j:=O9m
     have mj:?hD∈p:=by rw[qa7,qa0 hj'];exact ?bW
     have mi:?fW∈p:=by ext f7;exact ?bW
     obtain⟨j0,j1,j2⟩:=hf _ mj;obtain⟨i0,i1,i2⟩:=hf _ mi;obtain⟨_,z,hq1,at1⟩:=?x8 ?dE hv;cases z;rw[show ?tV=j by omega]at at1;obtain⟨_,z,hq2,at2⟩:=?x8 ?kD hv;cases z;rw[?tF]at at2;obtain⟨us1,v1,hu1,av1,tv1⟩:=LT.get hL j0 j1;obtain⟨us2,v2,YB,av2,tv2⟩:=LT.get hL i0 i1;obtain⟨b1,e1,hb1,ab1⟩:=?x8 ?kD tv1;obtain⟨b2,e2,hb2,ab2⟩:=?i8 (i:=?dE-1) tv2 O9m O9m;subst e1 e2;rw[?tF]at ab1;rw[show(?dE-1).toNat=j-1 by omega]at ab2;refine⟨_,rfl,_,rfl,_,rfl,pa,_,_,_,rfl,rfl,hq1,at1,a,us1,_,_,rfl,rfl,hu1,av1,_,rfl,b1,_,_,_,rfl,rfl,hb1,ab1,?_⟩;refine⟨_,rfl,_,rfl,_,rfl,pa,_,_,_,rfl,rfl,hq2,at2,a,us2,_,_,rfl,rfl,YB,av2,_,rfl,_,_,rfl,rfl,b2,_,_,_,rfl,rfl,hb2,ab2,?_⟩;refine⟨rfl,_,rfl,?_⟩;by_cases hag:?vS 0
     . refine Hq (eqI hag) ?_;refine⟨rfl,?eI,fun i' h=>?_⟩;by_cases hz:i'=i
       . subst hz;unfold Ty;exact qf8 hag
       . exact ?qG
     . refine cC (neI hag) ?_
       have e2:Mc xs p=false:=by
        cases q:Mc xs p with
        | false=>rfl
        | true =>
          unfold Mc at q;rw[qe1]at q;have q2:=q j (?j8 hj');rw[qe1]at q2;have q3:=q2 i (?j8 hij);exact ?bN (qc8 q3) hag
       rw[e2]at k;exact k
   . rintro σ H2 ⟨rfl,⟨o3,rfl⟩,hall2⟩;refine⟨rfl,⟨_,_,rfl⟩,fun j' i' h1 h2=>?_⟩;by_cases hz:j'=j
     . subst hz;exact ?qG
     . exact hall j' i' O9m h2
 . rintro σ H2 ⟨rfl,⟨o2,o3,rfl⟩,hall⟩
   have e2:Mc xs p=true:=by
    ext uX;have:=?cQ hj;exact hall j i O9m (?k0)
   rw[e2]at k;exact k
noncomputable abbrev Yc:Stmt:=top 16
theorem aH:?O [?e6,?bC,?aI,"total"] ?o0 (Au Yc):=Bh
theorem lD[?S](F:Er K ?oR ?oR Yc f fd)[?R] :?vA ?o0 P7:=by
 refine ?x0 aH;obtain⟨a,ms,k,n,rfl,ha,hl,kq⟩:=h;have Qk:=hr.u8
 refine⟨_,(Af (Av (i:=3) aH.nd (Bq Ds (S7 ?lH ?o ?z Ak ?iU) ?a0))
  (Ai (B9 (?xI Et ?aE) (Ai (Bx (NW ?o ?z BP ?iU))) (Ai (Xa ?lH ?o ?z ?aE ?x))))),?_⟩
 ext cA
 refine⟨_,rfl,a,rfl,?e ⟨_,?e ha⟩,_,rfl,_,Xh (?e ha),_,rfl,?a7,n,Xk ms k,rfl,?_⟩;refine ?nL;ext dH
 . have e:?gH=0:=?M
   unfold Jf at kq;rw[?bO]at kq;refine⟨_,rfl,a,rfl,?e ⟨_,?e ha⟩,_,rfl,?dS,?e k,ha,rfl,fun v hv=>?_,fun hn=>?_⟩
   . rw[uB];exact kq
   . rw[iI]at hn;have hn':?g0 ms k=none:=by simpa using hn
     have e2:?fU=ms:=by
      unfold Hs;rw[List.filter_eq_self];intro p hp
      have:¬?cI:=fun z=>by
       have h3:(ms.any fun p=>?t (?cI))=true:=qo9.mpr ⟨p,hp,?kN⟩;rw[Xl]at h3;obtain⟨p',TN,e'⟩:=?V h3;rw[←e']at hn'
       have:∀(ns:Ms),p'∈ns->?g0 ns p'.1≠none:=by
        intro ns
        induction ns with
        | nil=>intro z;cases z
        | cons q ns ih =>
          intro hq;rw[Dd];split
          . exact ?lS
          . rename_i hne
            rcases qb9.mp hq with rfl | hq
            . exact ?bN rfl hne
            . exact ih hq
       exact ?cC ms TN hn'
      ext fA
     rw[e2,wH ha]at kq;exact kq
 . have e:¬?gH=0:=?M
   unfold Jf at kq;rw[?cM]at kq;exact⟨_,rfl,_,rfl,_,rfl,a,_,rfl,Xg ha hl,kq⟩
noncomputable abbrev BK:Stmt:=top 17
theorem ND:?O ?jH ?jH (Au BK):=Bh
theorem OB[?S](F:Er K "times" "times" BK f fd)[?R] :?vA ?jH dQ:=by
 refine ?x0 ND;obtain⟨n,a,ms,rfl,ha,hm,hok,k⟩:=h
 refine⟨_,(Af (B9 (?xI Et ?o) (?yD Ix) Bo)
  (Ai (Bb (Cj (Z1 ?x) ?x T.n_dict Du (Aa (nW (Cc (N':=?r0) (cap:=[none,none,?c 0]) ?x ?c6 (Pb ?z) (?vG (?yA UY (?yH 1 UY))) ?c7 (?vG (D7 (Aa ?o (Aa (Bq ?fK ?a0 ?z) Ae)))))) Ae))))),?_⟩
 ext cA
 refine ?nL;ext dH
 . have e:n=0:=?M
   intro D hD;refine k D _ hD (?k4) ?_;rw[Ab];unfold T9;rw[?bO];rfl
 have e:¬n=0:=?M
 refine ?k ⟨a,?dS,ha,fun hnd o=>?_⟩;refine⟨_,rfl,a,o,?dS,rfl,Ab,?bS⟩;obtain⟨TR,nDa⟩:=EZ hD
 let Pq4:?e3:=fun i zs τ H1=>Es fun(ts:?tP)=>M9 (zs=ts.map V.ref) (ts.length=i) ((∀(j:Nat) t,ts[j]?=?c t->∃p:?aA,ms[j]?=?gP/\H1 t=?c (?A [?d p.1,?nP])/\t≠D)) (H1 a=?c (.frz o ?c8)) (?xX H1 zs) ((∀c q,c≠a->?oS)) (?wY [o1,o2,iS n])
 refine Zu (d:=a) (o:=o) (kvs:=?dS) Pq4
  ⟨[],rfl,rfl,(fun j t z=>by simp at z),?_,Ab,?_,?aH,?aH,rfl⟩ (fun i zs τ H1 _ hz=>by obtain⟨_,_,_,_,e,_⟩:=hz;exact e) ?_ ?_
 . rw[Aj nDa.symm];exact Ab
 . intro c q n1 e2;rw[Aj (Ao e2 TR),Aj n1];exact e2
 . rintro i kk x zs τ H1 p hx ⟨ts,rfl,JK,hts,ha1,Ec,hk1,o1,o2,rfl⟩ hp;obtain⟨q,hq,rfl,rfl⟩:=Oa hx;have hlt:i<ms.length:=(?a3 hq).1;have sp:?u H1 (upd H1 p (?A [?d q.1,?d q.2])):=?a8 hp;refine(?w6 p);refine⟨_,rfl,_,rfl,_,rfl,_,_,rfl,rfl,hok q (qb0 hq),?i6,fun t ht=>?_⟩;have st:=sp.trans (?a8 (o:=?A [?d q.1,?d (n*q.2)]) ht);have ntD:t≠D:=(Ao (?t4) ht).symm;refine⟨st _ _ Ec,?eE (by rw[qa4];omega),ts++[t],?aM,by simp[JK],fun j t' e2=>?_,?_,Ab,fun c r n1 e2=>?_,_,_,rfl⟩
   . rw[List.getElem?_append]at e2;split at e2
     . obtain⟨p',dJ,h2',h3'⟩:=hts j t' e2;exact⟨p',dJ,by rw[Aj h3'];exact st _ _ h2',h3'⟩
     . rename_i hj
       have hj0:j-ts.length=0:=by
        cases hz:j-ts.length with
        | zero=>rfl
        | succ m=>rw[hz]at e2;simp at e2
       rw[hj0]at e2;have et:t=t':=by simpa using e2
       subst et;refine⟨q,by rw[show j=i by omega];exact hq,?_,ntD⟩;rw[Aj ntD];exact Ab
   . rw[Aj nDa.symm];exact st _ _ ha1
   . have:=hk1 c r n1 e2;rw[Aj (fun z=>by rw[z,TR]at e2;cases e2)];exact st _ _ ?cC
 . rintro zs τ H1 ⟨ts,rfl,JK,hts,ha1,Ec,hk1,_⟩;rw[Mb]at JK;refine⟨ha1,D,ts,cK (?X fun p=>(p.1,n*p.2)),rfl,(by rw[Aj nDa];exact Ec),(by rw[Mb,qa4];exact JK),fun i t e2=>?_,fun E hE=>?_⟩
   . obtain⟨p,dJ,h2',_⟩:=hts i t e2;refine⟨(?e p.1,?nP),?_,?_⟩
     . unfold cK;rw[qa9,qa9,dJ];rfl
     . have nta:t≠a:=Eu h2' ha1 (?lS);rw[Aj nta];exact h2'
   . have s1:?u H (upd H1 a ?c8):=fun c q e2=>by
      by_cases z:c=a
      . subst z;rw[ha]at e2;cases e2;exact Ab
      . rw[Aj z];exact hk1 c q z e2
     refine k E _ (s1.free hE) (?qV (?a8 hE)) ?_;rw[Ab];have hnd':?aU:=Iz.mp hnd;rw[Nr _ [] (by rw[qn5];exact Iz.mpr (GV hnd' n))];unfold T9;rw[?cM,qn5]
noncomputable abbrev Ia:Stmt:=top 30
theorem Sz:?O ?cR ?cR (Au Ia):=Bh
theorem Ta[?S](F:Er K ?sG ?sG Ia f fd)[?R] :?vA ?cR jA:=by
 refine ?x0 Sz;obtain⟨v,xs,rfl,hL,hx,k⟩:=h;obtain⟨Qu,y3⟩:=T.x_MOST_PIECES;obtain⟨a,us,rfl,hq,r⟩:=id hL;have hl:us.length=xs.length:=by have:=r.length;ext fA
 refine(?xO (Ly (?vL (Gh (v:=.ty ?g8) rfl T.n_list Ez rfl)) (Nq (Le JC (?vQ ?o) (Ld (v:=?d 40) ?x y3 ?eI) ?aT))));refine⟨_,rfl,?s,?g8,_,rfl,?k (?wJ ?e),hL,_,rfl,?_⟩;refine cC ?x ?_;refine⟨_,rfl,a,_,rfl,?e hq,_,_,rfl,rfl,?_⟩;show Q (.bl (?t ((us.length:Int)<=40))) H;rw[qf8 ?E];exact k
noncomputable abbrev Ya:Stmt:=top 40
theorem KS:?O ?k6 ?k6 (Au Ya):=Bh
theorem lC[?S](F:Er K ?sA ?sA Ya f fd)[?R] :?vA ?k6 aC:=by
 refine ?x0 KS;obtain⟨v,h,w,j,f,rfl,hv,hh,hj,k⟩:=h;obtain⟨a,us,rfl,hq,V7,N2⟩:=Hk hv;refine(?xO (Cc (N':=?oJ) (cap:=?kU) ?x ?c6 (Cd (K:=K) ?o) (?vG (?yH 0 XM)) ?c7 (?vG (Ba (Bd (K:=K)) ?o ?z ?Z))));refine(?x4 a ⟨_,hq⟩)
 let Pq5:?e3:=fun i ys τ H1=>B6 (?u H H1) (?xX H1 ys) (ys=VI i (fun i=>f i j)) (?x7 iS j)
 refine Cp (K:=K) (a:=a) (xs:=us) Pq5
  ?h9 (fun i ys τ H1 _ hz=>by obtain⟨s1,_⟩:=hz;exact ?hY hq) ?_ ?_
 . rintro i x ys τ H1 hx C3;ext iM;intro s1 Ec hz1 o Ei;subst hz1;obtain⟨hi,b,rfl,hb⟩:=N2 i _ hx;refine⟨_,rfl,_,rfl,b,_,_,_,rfl,rfl,?hY hb,Ao2 hj,?_⟩;refine⟨Ec,?jL,?n4,Ab,?_,_,rfl⟩;rw[T3]
 . rintro ys τ H1 ⟨s1,Ec,rfl,_⟩;rw[V7]at Ec;exact ?jX
noncomputable abbrev Uj:Stmt:=top 42
theorem GH:?O ?jJ ?jJ (Au Uj):=Bh
theorem GQ[?S](F:Er K ?q8 ?q8 Uj f fd)[?R] :?vA ?jJ Xv:=by
 refine ?x0 GH;obtain⟨n,i,rfl,hn,k⟩:=h;refine(?xO (Cc (N':=?q7) (cap:=?kU) ?x ?c6 (?yG ?o) (?vG (?yH 0 xK)) ?c7 (?vG (Yi (Bf Et ?o ?z ?aT) Ak Ak))));refine⟨_,rfl,_,rfl,O9m,O9m,?bS⟩
 let Pq6:?e3:=fun j ys τ H1=>B6 (?u H H1) (?xX H1 ys) (ys=VI j (?pI)) (?x7 iS i)
 refine Jd Pq6
  ?h9 ?_ ?_
 . rintro j ys τ H1 hj C3;ext iM;intro s1 Ec hz1 o Ei;subst hz1;refine⟨_,rfl,_,rfl,rfl,_,rfl,?_⟩;have sz:(VI j ?pI).length<sizeLine:=?jL;ext dH
   . have e0:?dE=?cT:=?M
     have e:j=i:=O9m
     refine ?oN;rw[T3,?bO]
   . have e0:¬?dE=?cT:=?M
     have e:¬j=i:=O9m
     refine ?oN;rw[T3,?cM]
 . rintro ys τ H1 ⟨s1,Ec,rfl,_⟩;rw[qe6]at Ec;exact ?jX
noncomputable abbrev BL:Stmt:=top 44
theorem nF:?O ?iZ ?iZ (Au BL):=Bh
theorem OC[?S](F:Er K "mixed" "mixed" BL f fd)[?R] :?vA ?iZ Sm:=by
 refine ?x0 nF;obtain⟨a,b,x,y,n,p,q,rfl,hx,hy,hn,hm,k⟩:=h;refine(?xO (Cc (N':=?n9) (cap:=[none,none,?c 0,?c 2]) ?x ?c6 (?wL bP ?z) (?vG (?yA oJ (?yH 1 oJ))) ?c7 (?vG (Bq Ds (Bq ?fK ?a0 ?o) (Bq ?fK ?aE ?z)))));refine⟨_,rfl,_,rfl,x,y,rfl,⟨_,hx⟩,⟨_,hy⟩,?bS⟩
 refine AW (K:=K) (a:=x) (b:=y) (xs:=VI n p) (ys:=VI n q) (n:=n) (by rw[Bv,Bv,qw5]) (fun i zs τ H1=>B6 (?u H H1) (?xX H1 zs) (zs=VI i (fun j=>a*p j+b*q j)) (?wY [o1,o2,iS a,iS b]))
  ?rL (fun i zs τ H1 _ hz=>by obtain⟨s1,_⟩:=hz;exact⟨?hY hx,?hY hy⟩) ?_ ?_
 . rintro i u v zs τ H1 pr hu hv C3 hp;revert τ;refine VB ?_;intro s1 Ec hz1 o1 o2 Ei;subst hz1;obtain⟨hi,rfl⟩:=Vn hu;obtain⟨_,rfl⟩:=Vn hv;have sp:?u H1 (upd H1 pr (?A [?d (p i),?d (q i)])):=?a8 hp;ext uR;refine⟨_,rfl,_,rfl,_,_,rfl,rfl,(hm i hi).1,_,rfl,_,rfl,_,_,rfl,rfl,(hm i hi).2,_,_,rfl,rfl,?_⟩;refine⟨?t4,?jL,(?qV sp).turn hD,Ab,?_,_,_,rfl⟩;rw[T3]
 . rintro zs τ H1 ⟨s1,Ec,rfl,_⟩;exact ?jX
noncomputable abbrev Nf:Stmt:=top 50
theorem g7:?O ?kZ ?kZ (Au Nf):=Bh
theorem i6[?S](F:Er K ?pT ?pT Nf f fd)[?R] :?vA ?kZ Qv:=by
 refine ?x0 g7;obtain⟨a,b,sp,ms,rfl,jM,hb,hl,kq⟩:=h;have Qk:=hr.u8;refine(?xO (Cc (N':=?tH) (cap:=?kU) ?x ?c6 (Cd (K:=K) ?o) (?vG (?yH 0 XI)) ?c7 (?vG (S7 ?lH ?z ?o Ak ?iU))));refine(?x4 a ⟨_,jM⟩)
 let Pq7:?e3:=fun i ys τ G=>B6 ?sD (?xX G ys) (ys=((sp.take i).map (Bu ms)).map ?Y) (?x7 rS b)
 refine Cp (K:=K) (a:=a) (xs:=?eU ?Y) Pq7
  ?h9 (fun i ys τ G _ hz=>by obtain⟨g,_⟩:=hz;exact g.seq jM) ?_ ?_
 . rintro i x ys τ G hx C3;ext iM;intro g Ev hys o Ei;have hi:?k5:=by have:=(?a3 hx).1;ext fA
   have hxv:x=?d sp[i]:=by
    rw[qa9,?hI]at hx;simpa using hx.symm
   subst hxv;have jN:=RK g hb;refine⟨_,rfl,b,rfl,?e ⟨_,jN⟩,_,rfl,_,Xh jN,?_⟩;rw[Xk];refine⟨Ev,?eE (by rw[hys,qa4,qa4,qc9];omega),g.turn hD,Ab,?_,_,rfl⟩;rw[qf7,?hI,qb5,qb5,hys];rfl
 . rintro ys τ G ⟨g,Ev,hys,_⟩;rw[qa4,qd2]at hys;refine kq D G hD g ?_;rw[Ev,hys]
noncomputable abbrev Yd:Stmt:=top 54
theorem kT:?O ["turn"] ["turn"] (Au Yd):=Bh
theorem LD[?S](F:Er K ?rZ ?rZ Yd f fd)[?R] :?vA ["turn"] AE:=by
 refine ?x0 kT;obtain⟨u,t,rfl,hu,k⟩:=h
 refine⟨_,(Af (B9 (Bf Et ?gL Np ?aT) (?yD (D7 (Aa Np (Aa ?gL (Aa ?gL (Aa (Mn Ht ?gL) Ae)))))) Bo)
  (?yD ?o)),?_⟩
 ext cA
 cases t with
 | ad i j n =>
   obtain⟨ta,vs,rfl,hT,rT⟩:=hu;obtain⟨_,_,rfl,rfl,_,_,rfl,rfl,_,_,rfl,rfl,_,_,rfl,rfl,rfl⟩:=rT;refine ?s1;refine cC (?i) ?_;refine⟨_,rfl,ta,_,_,_,rfl,rfl,hT,rfl,_,rfl,ta,_,_,_,rfl,rfl,hT,rfl,_,rfl,ta,_,_,_,rfl,rfl,hT,rfl,_,rfl,?i6,?s2⟩;exact k _ _ (?a8 hT1) ⟨T1,_,rfl,?eZ,⟨_,_,rfl,rfl,_,_,rfl,rfl,_,_,rfl,rfl,_,_,rfl,rfl,rfl⟩⟩
 | mi i =>
   obtain⟨ta,vs,rfl,hT,rT⟩:=id hu;obtain⟨_,_,rfl,rfl,_,_,rfl,rfl,rfl⟩:=rT;ext uB
 | sw i j =>
   obtain⟨ta,vs,rfl,hT,rT⟩:=id hu;obtain⟨_,_,rfl,rfl,_,_,rfl,rfl,_,_,rfl,rfl,rfl⟩:=rT;ext uB
noncomputable abbrev En:Stmt:=Ex (top 55) 0
theorem Wo:?O ?iT ?iT (Au En):=Bh
theorem Og[?S](F:Er K ?hM "Lines.__init__" En f fd)[?R] :By P w K mg ?C Ej 1 f fd ?iT (Mg K Ag Ad Ah):=by
 refine ?x0 Wo;obtain⟨p,dx,C,r,b,rfl,hC,hp,k⟩:=h
 have hc:Cls K C/\De K C ?hL/\De K C ?fZ:=by
  rcases hC with rfl | rfl
  . exact⟨T.cl_Lines,T.na_Lines_rows,T.na_Lines_backs⟩
  . exact⟨T.cl_Stairs,T.na_Stairs_rows,T.na_Stairs_backs⟩
 refine⟨_,(Af (Ek (K:=K) ?o ?z)
  (Ai (Ek (K:=K) ?o ?a0))),?_⟩
 ext cA
 refine⟨_,rfl,_,rfl,p,C,dx,_,rfl,hp,hc.1,hc.2.1,?aM,?_⟩;refine⟨_,rfl,_,rfl,p,C,dx,_,rfl,Ab,hc.1,hc.2.2,by simp[putF],?_⟩;exact k _ _ rfl rfl
noncomputable abbrev Rj:Stmt:=top 59
theorem Ox:?O [?bZ,"at"] [?bZ] (Au Rj):=Bh
theorem EE[?S](F:Er K ?tM ?tM Rj f fd)[?R] :?vA [?bZ] Sw:=by
 refine ?x0 Ox;obtain⟨c,W,st,u,rfl,hq,hb,hW,k⟩:=h;obtain⟨b1,b2,b3⟩:=hb
 refine⟨_,(Af (Av (i:=1) Ox.nd Ak)
  (Af (S4 qb6 (?xI Et (Ba (Bd (K:=K)) ?o ?z ?Z)) (Ai (Av (i:=1) Ox.nd (Bq Ds ?z Ak))))
  (?yD ?z))),?_⟩
 ext cA
 refine El (?wO (?d ?hZ)) ?_ ?r7;refine Kc ?_;intro sq;refine qw7 (?wO (?d (st:Int))) (fun key=>?_) ?_
 . refine⟨fun m σ G=>Es fun(j:Nat)=>B6 (σ=[rS c,?c (?d ?aB)]) (H=G) (j<=st) (m=st-j),⟨_,0,rfl,rfl,?cZ,rfl⟩,?_⟩;rintro m σ _ C3;refine tD ?_;intro _;obtain⟨j,rfl,rfl,hj,rfl⟩:=C3;refine⟨_,rfl,_,rfl,c,_,_,_,rfl,rfl,hq,Bp (Cm O9m),rfl,_,rfl,?_⟩;ext dH
   . have h0:u j=0:=?M
     have hlt:j<st:=Nat.lt_of_le_of_ne hj fun z=>b2 (z▸h0);refine⟨fun σ' G'=>Es fun(j':Nat)=>E4 (σ'=[rS c,?c (?d (j':Int))]) (H=G') (j'=j+1),?_,?_⟩
     . rintro σ' G' ⟨j',rfl,rfl,rfl⟩;exact⟨st-?gR,O9m,j+1,rfl,rfl,hlt,rfl⟩
     . exact⟨_,rfl,_,_,rfl,rfl,j+1,rfl,rfl,rfl⟩
   . have h0:¬u j=0:=?M
     have hlt:j=st:=by
      rcases qg7 j st with h | h
      . exact ?bN (b1 j h) h0
      . omega
     subst hlt;exact key _ _ ?jW
 refine Kc ?_;intro sq;exact⟨_,rfl,k⟩
end
mutual
#check(4,[?a,?b,some,.int,base,(?eH),(pv 0),Same,(pv 1),.lst,.ref,none,(Bk _),(pv 2),.inr,.inl,FnScope,F.okZ,fun Dk A outer s H vs Q E hr h=>?_,∀(T:Ff K mg Ag Ad Ah Ax),a,∀{f:Addr}{fd:FuncData},a,(pv 3),(fun _ _=>rfl),.tup,Same.new,rS a,(pv 4),.(by infer_instance),.(by ext E),(fun key=>?_),.(by simpa using h1),(?x0 E5),rS D,.(by simpa using this),decide,V.int,.(by and_intros),(Bd (K:=K)),putF,(by ext O),.(by kernel_rfl),Nat->?cX->St->Hp->Prop,.ins,.(by decide +kernel),iS fam,if_neg,Reps.same,hc.1,(?xB ?i),.(by refine⟨_,rfl,_,_,rfl,rfl,_,rfl,?_⟩),PW.pt,(?xB ?g),?c v,Reps,(?u7 Az ?g),if_pos,s2.trans,.(by refine ?cA (fun h1=>?_) (fun h1=>?_)),.(by refine ?n8),fun D hD=>?_,"number",(-(B / g)),qa8 _,(fun _ _ _ _=>Ce),(i+1),Kp.upd,cK ms,?dE O9m,c%1000000%4,rS L,(?xG ?A),(?c9),Cn.nd,"table",?d i,iS i,(pv 5),rS p,?d q.2,(?cW),Ca.nd,as.map ?cE,rS b,(u1 Qk),?a3 rfl,(?x9 Ay),"shape","width",iS k,.(by ext bG),?y hD,(f+d),SameX,T.n_range,Option V,?c q,.of et,T.n_len,(?x9 Be),B7 (?dD),(Aa ?n Ae),.(by refine ?v6 ?dW),.(by rintro σ G C3;revert σ),.(by have Qk:=hr.u8),.(by simpa using h2),(?h H H2),Aw w fam,T.n_isinstance,(upd H2 R1 (?j (lu++ru))),"_law_shape",Rep.same,(H1 D=?dX),"_law_family",(i:Int),(0:Int),Nat->St->Hp->Prop,"rows",D9.nd,Aj z,s1.seq,(pv 6),?y hp,.(by ((repeat (first | rw[Aq,?aW] | ext m4))<;>first | rfl | assumption)),.(by refine ?v6 ?aJ),Kp.of,(w.length:Int),(Bc ?aX ?b9 qh0 ?Z),fun a ha=>?_,C6.nd,?dI s2,"self",xs.length,C0 ws ?g8 (?iF m),.(by decide),ite2,(?jD,Lat.one),iS letters,SameX.upd,V.ref,hc.2.1,for_list,"_law_word",?bQ+?bP,Di ?q0,(Hh Ae),(pv 8),(?vD ?aE),hc.2.2,q.1.toNat,(?xG ?i),(?hH),Dn.nd,s1 _ _ xb.2.1,.of Ab,"other",(Aa ?g ?W),A / g,List V,(pv 9),(?h H H1),E3 ws (?j1 j),ws.map tI,(?x9 Kt),?dZ ?_,(pv 7),"_law_total",?g3 i.toNat [],bo.1,(?j []),"turn",(Cb _ _ _),fun hnd o=>?_,"row",.(by simp),small,g.trans,"place","thing",s1.trans,T.cl_Stairs,List.replicate,"one",?c (?j ws),(dH xs ms i),ps.take,(?eA hx).1,.(by rintro _ _ ⟨rfl,rfl⟩),.(by exact k H (?h1)),.(by revert σ;refine Q1 ?_),.(by refine Kc ?_;intro sq),.(by rintro i σ H2 hi C3),.(by rw[e2]at k;exact k),(?oF),?u1 ys,?k a,TI.mk,[none],?T (fun z=>absurd (z▸hm) ?eI),[?c6,?bS,?e8],Ks ps i,Vq.of,sH.trans,s2.seq,?k p1,"backs",fun e=>?rT,qa2.mp,layer[j],"list",(?fR),(o:?b6),T.cl_Work,?w8 i,.(by rfl),(by ext R),(ws:?cX),w.take,?vC D,Aj n2,[?aY,?dH,"level"],(?x9 Eb),Em.nd,p.2.2.2,T.n_list,k H1 s1,"_law_chain",(?pB),(?u7 Cd ?g),fun L3=>L3 _ _ ?oA,(?vR rfl),(?x3 ?g ?v),(?uD [o]),qa0 hi,"_law_words",(?lD),sL.seq,fam=0,Pn ?_,(qb0 hq),?d q.1,Aw ?eB fam,.(by obtain⟨q,hq,rfl,rfl⟩:=Oa hx),.(by exact ?jA),.(by refine ?v6 (?dD)),.(by revert σ;refine aM ?_),.(by obtain⟨s1,_⟩:=hz),.(by refine ?l7),?bV hq,(?eA hv).1,fun l=>[l],(?bI)[m],cK cs,fam<0,?jF 1,gp _ _ Ev,(w.length=i),Lat.blendR,(w:?gV),cK p.2.2.1,?cD (SameX.refl _ _),(?j3),List.range,(?xB ?v),[?dL,?cU],(?x9 Te),SameX.of,?T hf,[?dH,"bound"],V4 lf (?dO j),Aj ?l4,B7 ?dW,xs.getD,"numbers",iS most,(?vD ?fJ),Iz.mp hnd,(?o3),Hk hv,"chain",?p rfl,F3.nd,(?xB (?x3 ?a2 ?n)),["_law_piece"],?d p.1,?T ?eI,(?u7 Ny Qk),Nu ?c7 (ls.take i),"_law_place",σ'=[?aP,rS ta,?c (?d (w:Int))],?p hq,⟨_,_,?l,[],rfl,?y hp0,?nZ,rfl⟩,(TI K H2 v w),k01.trans,Aj nD,[?dH,"many"],(?x0 ?n),sp.zip ns,p.1=1,Aj n1,List Int,[?c6,?d9],["_law_found"],((ds.length:Nat):Int),fun _=>False,cV ?q0,Same.refl H,T.n_enumerate,?T h3,[?aY,"k"],"_law_level_here",iS kind,(?hM).1 i (t ?b3) / s.1 ?b3 (t ?b3),layer,"_law_holes",?dI sp,qh5.mp,(c':Int),?w5 m,(v:V),cK ns,⟨_,qa0 O9m⟩,?h H H',TI.same,.(by ext i1;ext H),?g3 ?cO [],iS c',?rG t i f s d,(?xG ?aO),[?k4],w.length-1,.(by refine⟨_,rfl,_,_,rfl,rfl,?iL,?aA,fun p0 hp0=>?_⟩;refine⟨_,rfl,_,rfl,O9m,O9m,?_⟩),.(by rintro σ H2 C3;revert σ;refine V6 ?_;intro c' v o w s2 tv hwl Ei;exact⟨_,rfl,k v H2 w s2 tv (hW w hwl)⟩),.(by refine(?uC p)),.(by rintro i x ys τ H1 hx C3;revert τ;refine Lg ?_),.(by refine(?u4 a ?jL)),.(by refine ?f5;intro o3 hz1 Ei;subst hz1),.(by refine ?cA (fun h2=>?_) (fun h2=>?_)),.(by refine ?cA (fun e=>?_) (fun e=>?_)),.(by rw[?aW,Sd];simp[h1]),.(by injection this with this),.(by revert τ;refine Lg ?_),.(by have:=?dP),[?aL,?aZ],fun E hE=>?_,qq3 _ ?aJ,⟨[],rfl,rfl,Rows.nil hD,?l,rfl⟩,fun i=>?s0,[?dH,?aZ],(?eA hy).1,ms.getD i (0,0),"plus",fun D2 H2 Op s2 h2=>?_,?o (?gB),qa0 hmf,"_law_chain_is",(?f8).take,?c (?gF),"_law_faces_by",s2.free,s1.turn hD,.dK [],⟨?c9,?c9⟩,s3.trans,"places_of_level",?iM s4,w.getD ?aC 0,"_law_words_with","_law_i","_law_cell",T.n_all,"faces",.(by simpa using h4),?dE (by rw[qa4];omega),?dF gp,upd G T1 (?x [.str "add",?aM,?d (?jI:Int),?d (-qq)]),[?c6,?aL,?aZ],(j:Int),rows.take,[none,?c 0],w.map ?J,?eK i++[(w.getD i 0+?iP)%fam]++?jF (i+2),[?dL,?cU,?aZ],List (Str × V),acc.map tI,[?aY,"k",?dG,?a8],?d w[i],?u8 ?oA,T.n_tuple,[?f1,?cH,?bO],Lat.one,s1.seqT hq,w.drop,T.na_Stairs_rows,(Gu K),(f+d:Nat),"_law_face","_law_k",⟨_,hq⟩,qa4 ..,qb0 hp,.(by rw[Aj n];exact e),[?aY,"k",?dC],"turned",LT.get,(?fT i).map,?c ?cM,upd G p (?v0 nv),⟨_,rfl⟩,?g3 j [],"is_whole_below",i<w.length,fun w=>?lO,Vq r b H1 G,"_law_without_noughts",(?aT).set,T.m_Lines,"size",?u1 zs,s1.free,?a4 sp,bs.any id=true,?I (i<b),(D7 Ae),["k","bound"],(Fk ((?gS).take i)).length,"_law_level",[?bL,?h5,?oG],(?f8).length,[?iS,?bO,?sH],[?cH,?bO],[?g4,?aL,?aZ],["_law_script",?jK],.(by rw[?l6];exact Ec),T.n_dict,(?hK).length,Bu gs q.1,.of Ec,(?a4 s3).trans s4,fun m hm=>?_,R1.free,"ones","is_place_of_level",fun p hp=>?_,[?bL,?eT],R1.same.free,ns.map ?J,"_law_weighed",?wE ?bP,Fd fam w,belowD (?aM) b,"__init__",["lines",?d9],fun z=>?_,"_law_word_by",Aj DH.symm,⟨_,rfl,?_⟩,"_law_border_by","_law_whole",xa.row,fun c q e=>?_,?bM s1 hL,?h H G,qa0 hjl,"list_times",i<ns.length,?I (0<=i)&&?I (i<(xs.length:Int)),H' p=?c (?Q Ah dx fs),e.symm,[?pN,?eT],fun i=>?j4,"told","is_list_of_wholes",?nB fun f=>?qB,.(by rw[hfs];ext bY),?v6 (oF O9m),.(by revert σ;refine V6 ?_;intro c' v o w s2 tv hwl Ei;obtain⟨a,rfl,Ww⟩:=tv.sq;refine ?rR;have s3:?vG pt (?x [?d (?nO)]):=?y yC;refine ?oH;refine ?nR;refine(?w3 [?nO]);rw[qb5];exact q3),.(by exact⟨?wV R.at,?iW,as++[D2],by simp[hal],by rw[qb5];rfl,R.push Op s2 (by rw[hal];exact h2),_,rfl⟩),.(by refine ?u0 (?x5 [?z,?b0,?G,?wE (?e3),rS t])),.(by rintro ys τ H1 ⟨as,hal,rfl,R,_⟩;exact k D as H1 O9m R),.(by refine(?vB t ?b8)),.(by refine(?vB ta hT1)),.(by refine ?v6 (fun z=>nomatch (show false=true from z))),∀(Ie:Has P w K mg ?e "mixed" ["a",?dL,"b",?cU] 1 (Sm K)),a,∀(Fn:Has P w K mg ?e "level_of" ["piece"] 1 ?jH),a,∀(Fo:Has P w K mg ?e "is_whole" [?dH] 1 (Iv K)),a,.(by refine⟨_,rfl,_,rfl,O9m,O9m,?a7⟩),.(by subst z;rw[hb]at e;cases e;exact Ab),.(by rintro ys τ H1 ⟨s1,Ec,rfl,_⟩),.(by rw[Aq,?gG]),.(by intro s1 Ec hz1 o Ei;subst hz1),.(by refine cC ?dW ?_),.(by rw[hlen];rintro ⟨_,z⟩),.(by rw[hlen];rintro ⟨z,_⟩),?hI s3 tx,(top 58),s15 _ _ EX,H0 a=none,[rS ta,o1,o2],boot_intT,Bp (Cm h1),[?z,?aU,?G,o1,o2,o3,o4,o5,o6,o7],?eK (?hP),?u7 ?lA hi,"is_straight",ns.getD i 0,"check_level",⟨?eH,?eH,?eH,?eH⟩,Ao hb hD,F7 eX ?f6,⟨hz,O9m⟩,?vS L (?aT),Mz (ws:=ws) (fam:=fam) (layer.take j) [] (fun u hu=>zS u (qp0 hu)),?cA (fun h4=>?_) (fun h4=>?_),"_law_size",Fj (?jW),(?bI).length,upd H b ?cM,(z▸R2.free),fun c r n e=>?jO,.(by have:=rM.length;ext H),s1 _ _ hb,.(by rw[Bv]),?u8 ⟨_,_,rfl,g⟩,G1 a=none,"product",us.length=ds.length,"without_borders","_law_rounds_hold",⟨_,rfl,rfl,_,rfl,?_⟩,qg8 _ O9m,[?gA,?iU,?a8],(?bI).map,?v6 ?eI,(?eK i).map,(bs.map ?cE).set i (?k D3),hk1 c r n1 n2 e,[?z,?G,o2,o3],R.same.seq,?bM R.same hv,(bu:?cX),P3 ws w fam,(?cI)=((i:Nat):Int),(Fj [0,2,3,4]).any,N2 i _ hx,c'%letters,[?aY,"bases"],.ad i ?b3 (-qq),⟨_,rfl,_,rfl,_,_,rfl,rfl,⟨hb0,hb1⟩,?_⟩,?k2 i (?k D1),Fd fam u,"_law_more",Zl xs (?x ds),m<fu.length,(o1 o2 o3 o4 o5 o6 o7:?b6),w.length=0,?dZ (?cT),Gz ms fs n i,(?c1-1).toNat,?vC D2,?wX (layer.take j),i<ms.length,.(show ?nL by omega),⟨ws,_,_,_,_,_,_,rfl,g,Ev,dd,dI⟩,(qi4 ?dA),upd G p (?x [?aM,?k b]),a=nm\/?r2,⟨rfl,rfl⟩,"_law_kind",hok.one p hpm,"_law_cell_at",(?uG b ?aE),.(by simp;omega),"_law_thing",⟨a,pt,_,_,rfl,rfl,s3.seqT Ww,?cT,?g2,fun p3 H3 s4 q3=>?_⟩,dd.keep fun c kvs e0 e=>?_,s1 _ _ hp,"_law_cells",(?j us),k D ys H1 hD s1 Ec r1,(ws.take i).map,(qb0 hq2),[?aY,?dH],(?k pa),g1 _ _ et,⟨_,rfl,_,_,rfl,rfl,?_⟩,fun D H1 hD s1 Ec=>?_,w.length=1,(qh1 _ _),.(by have:=r.length;ext H),?c (?f7),?vC a,.(show ?vJ 1 1 by omega),z.there.1,fun T hT=>?_,upd H4 nm ?d8,w.length,Lat.Straight,"is_table",?bM g1 HH,No DI r4 t4,.(by simpa using h6),ys.length=i,Fj (?hK),upd H1 p (?Q C dx (?uU fs)),"_law_shape_by",(z▸Op),?g3 (?i9).1.toNat [],uS.free hnm,(z.same sn).there.1,(?y ndl).turn,(Ao e hD),?M ?bS (?cE D1) fs,[?oB,?oK,?s3],.(show(1:Int)=((1:Nat):Int) by omega),?fL::(?jS ?lL),"_law_gauge",(top 55),⟨_,rfl,rfl,?_⟩,"chain_of",.(by rw[qa9,?iD];rfl),⟨?l,rfl,rfl⟩,⟨_,_,e⟩,Kp H3 H',(?aG:Int).toNat,⟨c,O9m,h2,h3⟩,"lifts_of",fs.map ?J,[?z,?aU,?G,o1,o2,o3],ds.length,?vC M,(Xb ?i),fun G4 fs hfs yK=>⟨rfl,?_⟩,(D:Addr),Cls K C/\De K C ?bS/\De K C ?e8,(?jW).length,[?d g,?d a,?d c],?I (?J fam=?J 0)=true,(3:Int).toNat,"_law_holes_are",(CC ws f:Int),lU _ _ hLr hLb h,R1.same.trans R2.same,.(by simp[hwl]),?h HL H1,H1 c=?b7,[?z,?b0,?aU,o3],?U sa rL,"add_faces",?uQ ha1,upd H c ?g6,[?c6,"i","first"],?dK (VI n f).length true,∀w:?gV,w.length=(?aG).toNat->?l0,.(by rw[qo5]<;>rfl),T.na_Stairs_starts,BV ?aJ ?aJ,(?pJ).length,[?z,?G,?kZ,o3],?wV Ab,(?f8)[m],∃p,ps[i]?=?c p,⟨zW,_,rfl,s5,vL,?_,OZ⟩,Nv ws fam 4 [w] [],qa6 ?dA ?o7,∀o,H c=?c o->G c=?c o,?u7 x.row hi,a=O3\/a=O4,[?c6,"i","j",?dL,?cU],(?eA hq).1,g1 _ _ Ev,ms.length,C0 ws ?g8 (?iF (m+1)),[?z,rS af,iS n,o1,o2],?h G H',upd G2 pr (?x [?d j,?d (M i j)]),(?c8).length,?u8 ⟨rfl,g1.trans g2⟩,(?lH)=true,e9 q.2 m,Di ?q6=i,Lat.shrS,Mq xs k p n,fun G2 g2=>?l7,wF (Bu gs) (cs.take i),Int.emod_nonneg _ ?aJ,sp.getD i 0,c≠D->H c=?b7->?qG,?h G3 G4,[none,none,?c 1],(x2.same s3).there.1,[?bL,?h5,?h9],⟨_,rfl,_,rfl,_,rfl,_,_,rfl,rfl,hb0,?bB,fun pt yC=>?_⟩,sa.seqT hq2,Dg xs e (?cJ-1),p.2.2.1.take,upd G1 t (?v0 nv),h2.length,fc∈acc,fun e=>eqD e (?d (ds.length:Int)),[?bL,?h9],?eK i++?jF ?aC,.(nomatch z),.(by rw[qa9,?lE];rfl),"_law_most",sL.seqT hT,upd G E (?iK),.(by simp at z),?wV Ec,(?gO k19),fun pa Ha sa qa=>?_,"is_part",((f:Nat):Int),List Addr,?bM g hL,TA.of R1 hl1,.(by rw[?gU];exact e),⟨?aA,?b2,Ab,rfl,?l,rfl⟩,"_law_letters","flipped",j<ns.length,?nV=false,Aj rb.symm,layer++rows,dH xs ms ?r6,.(by simpa using hi),Gv ms (ns.take i),?dK us.length true,.(by obtain⟨f1,f2⟩:=fin i D H1 hi hD s1 (by rw[Ec];congr 2;exact P1 fun c _=>by simp[QY]) fun r hr=>by funext c;simp[QY,hr]),.(by refine⟨_,rfl,_,_,rfl,rfl,(?uB 3),rfl,_,rfl,?_⟩;refine ?cA (fun _=>?_) (fun _=>?_)),.(by revert σ;refine OV ?_;intro L R lu ru layer rows o5 o6 o7 o8 o9 sH hL rL hR rR zS hlay zP hrl Ei),.(by obtain⟨dx,fs,hp,l1,l2,l3,l4,l5⟩:=x.ob;obtain⟨as,xa,na⟩:=x.rw;obtain⟨bs,xb,nb⟩:=x.bk),.(by exact⟨_,rfl,_,rfl,L,_,_,i,rfl,rfl,f1,J3 (by rw[qa4,x.1];exact hi),⟨_,rfl,f2⟩⟩),.(by refine⟨?aA,?kU⟩;refine k p [] _ hp (?bX) Ab ?_),.(by have rul:ru.length=rows.length:=by have:=rR.length;ext H),∀(Cz:Has P w K mg ?e ?kT ?eN 3 (Fg K)),a,∀(Gx:Has P w K mg ?e ?iH ?kH 1 (Lm K)),a,.(by revert σ;refine vD ?_;intro W wu ws o5 o6 s2 hW YH rW hO hwl Ei),.(by have hyl:?p9:=by have:=r1.length;simp at this;omega),∀(Qe:Has P w K mg ?e "add_at" [?gA,?dG,?a8] 1 (P7 K)),a,∀(D8:Has P w K mg ?e ?jX ?fZ 2 (G0 K)),a,.(by exact⟨?dJ,?jG,T.na_Stairs_backs⟩),.(by refine vC ?_;intro ws o1 o2 o3 o4 o5 o6 o7 g Ev dd dI Ei),.(by revert σ;refine vE ?_;intro ws o6 o7 hc2 EX dd dI hk Ei),.(by exact⟨T.cl_Lines,T.na_Lines_rows,T.na_Lines_backs⟩),.(by refine(?uC pr)),.(by rw[qa9,?f0]at hx;rw[qa7,?f0];simpa using hx.symm),.(by refine VC ?_;intro ws o2 o3 o4 o5 o6 o7 g Ev dd dI Ei),∀(Kx:Has P w K mg ?e ?l9 ?gX 1 (Rf K)),a,.(by have nN:∀a,?oY->¬N a:=fun a e z=>x.nn a z e),.(by rwa [show((?cO:Nat):Int)=q.1 by omega]at this),.(by exact fun k k1 k2=>Lat.blend_row_ne k1 k2 _ _ _ _),.(by have:¬c=i:=fun e=>z ?lJ;simp[Lat.one,z,this]),.(by exact sx1 b _ (Eu e hp (by intro z;cases z)) e),.(by have hat:?vT ms:=?mO),.(by revert τ;refine OT ?_;intro hi1 s1 Ec r1 o Ei),.(by have hq2:Dl K H2 aw ?fS:=sH.seqT hq),.(by refine(?w2 ta hT1)),.(by revert σ;refine VG ?_;intro o1 ha1 Ec hk1 Ei),.(by rintro i ys τ H1 hi ⟨as,hal,rfl,R,o,rfl⟩),.(by refine ?v6 (by ext hY)),.(by refine cC (by ext hY) ?_),.(by refine(?w2 L hL)),@(fun _ _ _ _=>?a),@(By P w K mg ?e Ej 2 f fd ?a (?b K)),@(By P w K mg ?e Ej 3 f fd ?a ?b),@(Aa ?a (Aa ?b Ae)),@(By P w K mg ?e Ej 1 f fd ?a (?b K)),@(fun i σ H2=>T7 fun ?hC ?hE ?eE ?fP=>B6 (σ=?a) ?bH ?gN ?fN),@(σ'=[?aP,?aN,iS j,iS A,iS B,?aH,iS ?a,iS c,?c (?d ?a9),?c (?d ?aR),rS ci,rS di]),@(σ'=[?aP,?aN,iS j,iS A,iS B,?aH,iS ?a,iS c,?c (?d ?a9),?c (?d ?aR),rS ci,none]),@(.of (?a _ _ ?b)),@(Bf ?a ?b Ak ?m),@(qw7 ?a ?D ?_),@(?c (?j ?a)),@(Bx (Gn (K:=K) qd4 qg4 qg3 E8 ?a (Aa ?b Ae))),@(El (fun σ' H'=>σ'=?a/\H=H') ?_ ?eW),@(⟨_,rfl,?a,rfl,?b,?a7⟩),@(fun σ' H'=>Es fun(fam:Int)=>E4 (σ'=[?h6,?z,?g5,?S,none,none,none]) (?a=H') (fam<100)),@(?c (.dK (cK ?a))),@(?a (K:=K) ?b),@(key _ _ ?a),@(Av (i:=3) ?a ?b),@(Aa (Bc ?aX ?b9 qh0 ?a) Ae),@(by show ?bQ<?a;decide),@(⟨?a,_,rfl,?cT,rfl,_,_,rfl,_,_,rfl,rfl,?_⟩),@(Es fun o=>τ=?a),@(?r ?a ?s),@(Av (i:=?a) ?aK ?b),@(⟨_,rfl,?a,o,?b,rfl,Ab,?_⟩),@(fun i ys τ H1 _ hz=>by ext fD;exact ?a),@(⟨_,rfl,p,Ah,dx,_,rfl,?a,?eF,?b,O9m,?_⟩),@(upd (upd ?a p1 (?x [])) p2 (?x [])),@(⟨_,rfl,_,rfl,tI fc,?j7,?a,?p ?b,(by have:=Pt acc;omega),_,rfl,?_⟩),@(mkL (N:=?gZ) hl1 R1 hl2 R2 ?a sN hfs yK (fun _ z=>z.elim)),@(upd H1 p (?x ?a)),@(fun i σ G ?a hz=>by obtain⟨_,_,_,_,e,_⟩:=hz;exact e),@(?a K Ag Ad Ah),@(fun i j=>if j=i then 1 else ?a),@(Tp (?o ⟨o,?a⟩) hat),@(Ap (i:=?a) ?bT),@(fun fr hc o e=>fr _ _ (?a _ hc).1 (?b _ hc).2.1 (s1 _ _ e)),@(Av (i:=4) ?a ?b),@(?M ?bS (?k D1) ?a),@(⟨_,rfl,t,_,_,_,rfl,rfl,?b8,rfl,?a,?b,rfl,rfl,_,rfl,?_⟩),@(Di (?a (?d6)).length),@(Ci ?f ?b5 ?a),@(Ap (i:=3) ?a),@(SX Ad H0 ?a p q M n W t cnt ?b),@(?x [?d sv,?d ?a]),@(?h G2 (upd (upd G2 dl (.own ?a)) ?b (?Q Ag dl []))),@(⟨_,rfl,_,rfl,a,?a,rfl,?p ?b,_,_,rfl,rfl,_,rfl,?_⟩),@(fun k hk=>⟨mk ?a bo.2 hi hk,mk ?b bo.2 hj hk⟩),@(Aa (pv ?a) (Aa ?b ?gD)),@(fun k hk=>⟨mk ?a ?d7 hi hk,mk ?b ?d7 hj hk⟩),@(Hq ?a ?_),@(?a1 K H1 ys ((?a ?b).map tI)),@(upd H5 ?a (?Q Ah dx (?M ?g4 (?k nm) fs4))),@(upd (upd G3 CJ (.own L)) ?a (?Q Ag CJ [])),@(Av (i:=2) ?a ?b),@(⟨_,rfl,?a,_,_,_,rfl,rfl,?b,rfl,rfl,_,rfl,?_⟩),@(H ?a=none),@(.frz o (.dK (?a))),@(Ba ?L ?a ?i ?w),@(by unfold Aw;rw[?fY,?h3,?a3 h5,?a h7]),@(?h H2 (upd H2 ?a ?b)),@(Eh (D6 (An Kx hr ?a))),@(Ap (i:=4) ?a),@((?cI+?a)=((i+?b:Nat):Int)),@((?a).map tI),@(∀{G:Hp}{c:Addr},?k0->c∈?a->?r0),@(fun i σ G=>Es fun o3=>σ=?a/\F0=G),@(.of (kb ?a mdj _ (xb.2.2 _ _ rdj))),@(.of (kb ?a mdi _ (xb.2.2 _ _ rdi))),@(?a (K:=K) ?f ?h2 ?b),@(⟨_,rfl,_,_,d,rfl,?a,hx,_,rfl,?_⟩),@(⟨?b2,Ab,?a,?l,rfl⟩),@(upd H ?a (?j ?b)),@(lookI ?a q.1=?c q.2),@(Ij fun o1 o2=>τ=?a),@(Ck (lo:=0) (n:=us.length) ?a ?b ?_ ?_),@((?lH&&?I (Di (?d6).length=l))=?a),@(∀a,?a a=none->?b),@((if ?gY > 1 then ?gY else 1)-?a),@(?a ?b (upd H1 L (?j (?k2 i (?k D))))),@(Ap (i:=?a) ?aS),@(?o ⟨?a,?aE,?b,?dB⟩),@(⟨_,rfl,?a,_,_,_,rfl,rfl,?b,rfl,?_⟩),@(⟨_,_,_,w++?a,rfl,?kP,?d3,?qE⟩),@(By P w K mg ?e Ej 4 f fd ?a (?b K)),@((?rU ?a).foldl (lift1 ?eQ) lg),@(show(?a).all id=true by simp),@(Ao ((wO.trans s4) _ _ ?a) nE),@(?d (fs.getD ?a 0)),@(Dy (K:=K) (n:=2) ?f (Bm ?a (Bm ?b Dx))),@(⟨_,(Ai (Bb ?a)),?_⟩),@(Bc ?a ?bJ Bz (?tT ?b (Gh (v:=.ty ?eC) rfl ?eR Ez rfl))),@(An ?a hr ?b),@(B9 (?tZ Et ?a) (Ai ?b) Bo),@(?c (?d ?a)),@(LX ?a Ag L O1 O2 ?l n n ?cB ?b),@((?c0 ?a).trans ?aD),@(Eh (D6 (Bc ?a ?bJ Bz (?tT ?b (Gh (v:=.ty "tuple") rfl ?jB Je rfl))))),@(fun i ys τ H1=>B6 ?cZ ?bN (ys=(?dK i true).map V.bl) ?a),@(Av (i:=?a) ?c4 ?b),@(Bc ?aX ?b9 qh0 ?a),@(H9 ?a=?u1 (VI W (?fO s.1 i j a c ?a9 ?aR ?b))),@(?Y (Up ?a (P9 (?tZ Iy ?b)))),@(⟨_,rfl,?a,rfl,?b,?_⟩),@(fun i ys τ H1=>Dp (i<=w.length) ?cZ ?bN ?a ?b),@(⟨_,rfl,D,us,rfl,?p ?a,_,rfl,O9m,O9m,?_⟩),@(VI n (?fO s.2 i j ?aR (-?a9) (-c) a ?a)),@(H' ?a=?u1 ?b),@(⟨_,rfl,_,rfl,?a,?aQ,rfl,?b,rfl,_,rfl,?_⟩),@(Qa ?aV ?a ?b ?w),@(⟨_,rfl,_,_,rfl,rfl,(?uB ?a),?_⟩),@(s2 _ _ ?a),@(By P w K mg ?e Ej 2 f fd ?a (?uO ?b)),@(below ws fam [] ?a),@(Ap (i:=?a) ?b),@(B9 (?a ?b) ?F Bo),@(Ai (Bb ?a)),@(Ek (K:=K) ?g ?a),@(B9 ?a (Ai ?b) Bo),@(Ba ?L ?a ?b ?w),@([?hL,?S,?cC,?wE ?a,?b,?a0,o]),@(fun σ' H'=>σ'=?a/\G=H'),@(Bq ?a ?g Ak),@(⟨_,.of ?a⟩),@(Kn (?wC Ie (Aa ?a ?b)) (Ko ?a2 ?n Fh)),@(?a (K:=K)),@(Eh (D6 (?wC Ja (Aa ?g (?tT ?a ?aI))))),@(Aa ?a Ae),@(B8 qb6 rfl (?u7 Cd ?a) (?w0 7) (Ai ?b)),@(Kn ?a (Ko ?n ?v Fh)),@(Bq Ds Ak (Bq Jo (?x6 Xc) ?a)),@(?a (Bc (?u7 Nz ?f) ?iT Qg (?xB ?b))),@(Ba ?bA ?a Ak ?w),@(Ai (?x2 ?a ?b)),@(Kn (?wC Ie (Aa ?a ?b)) (Ko ?a2 ?i Fh)),@(Ml ?a (Nm ?b))])
noncomputable abbrev Ln:Stmt:=top 64
theorem Kh:?q [?aL,"i",?dC] [?aL] (Au Ln):=Bh
theorem Yk[?u](F:Er K ?mJ ?mJ Ln f fd)[?t] :?tU [?aL] Of:=by
 refine ?uE Kh;obtain⟨v,n,w,M,rfl,hv,hn,hw,k1,k2⟩:=h;obtain⟨ta,us,rfl,hq,V7,N2⟩:=?g9
 refine⟨_,(Af (B8 qb6 rfl (?vP S6 ?Z) (?w9 (?wY 1 Kh.nd) (?wY 2 Kh.nd)) (Ai (B9 (D6 (Bc (?u7 Y8 ?f) T.n_any aZ (?xB (Cc (N':=["j",?a8,"i"]) (cap:=?rO) ?f ?N (?vP S6 ?bC) (?tQ (?w9 (?wY 0 oH) (?wY 1 oH))) (?tQ (W9 (Bf Iy ?g ?n ?m))) (?tQ (Le Iy ?i Ak ?m)))))) ?F Bo)))
  ?F),?_⟩
 ext B
 refine ?u0 (fun σ' H'=>Ij fun o1 o2=>E4 (σ'=?mD) ?cQ (?p4 n w M))
 . refine(?wN ta ⟨us,hq⟩)
   let Pq8:?bR:=fun i σ G=>Ij fun o1 o2=>E4 (σ=?mD) ?f2 (?p4 i w M)
   refine Zk (K:=K) (a:=ta) (xs:=us) Pq8
    ⟨?l,?l,rfl,?h1,fun i j hi=>O9m⟩ (fun i σ G _ hz=>by obtain⟨_,_,_,s1,_⟩:=hz;exact ?fF) ?_ ?_
   . rintro i v σ G p hv C3 hp
     ext K
     revert σ;refine vG ?_;intro o1 o2 s1 hS Ei;obtain⟨hi,b,rfl,hb⟩:=N2 i v hv;have sp:?h G (?o8):=?bX;ext hS;generalize ?o8=G1 at sp;have s2:=?hA;refine(?u4 b ⟨_,?e6 hb⟩)
     let Pq9:?P:=fun j zs τ G2=>Es fun(bs:List Bool)=>M9 (zs=bs.map V.bl) (bs.length<=j) ((?k8↔∃c,c<j/\c≠i/\M i c≠0)) (?h G1 G2) (G2 D=?k5) (j<=w) (?vU [o1,o2,?kZ])
     refine AX (K:=K) (a:=b) (xs:=VI w (M i)) Pq9
      ⟨[],rfl,qa1 _,⟨fun z=>?s6,fun⟨c,hc,_⟩=>O9m⟩,?b2,Ab,?aA,?l,?l,rfl⟩ (fun j zs τ G2 _ hz=>by obtain⟨_,_,_,_,g,_⟩:=hz;exact g.seq (?e6 hb)) ?_ ?_
     . rintro j y zs τ G2 pr hy ⟨bs,rfl,hbl,hiff,g,Ev,hj,q1,q2,rfl⟩ hpr;obtain⟨ZP,rfl⟩:=Vn hy;have gp:?h G2 (?rA):=?y hpr;ext t8;generalize ?rA=G3 at gp;refine⟨_,rfl,_,rfl,rfl,_,rfl,?_⟩;ext a5
       . have hji:j≠i:=by
          have:¬((j:Nat):Int)=?bP:=?C
          omega
         refine⟨_,rfl,rfl,?fM,?iW,bs++[!(?I (M i j=0))],?_,?oF,?_,(?iX).turn hD,Ab,ZP,_,_,rfl⟩
         . rw[qb5]
           congr 1
           by_cases z:M i j=0<;>simp[z]
         . rw[List.any_append,qp8,hiff];constructor
           . rintro (⟨c,h1,h2,h3⟩ | h)
             . exact ?pW
             . exact⟨j,O9m,hji,by simpa using h⟩
           . rintro ⟨c,h1,h2,h3⟩;rcases qg7 c j with h | h
             . exact ?p ⟨c,h,h2,h3⟩
             . have:c=j:=O9m
               subst this;exact ?o (by simpa using h3)
       . have hji:j=i:=by
          have:((j:Nat):Int)=?bP:=?C
          omega
         refine⟨bs,rfl,O9m,hiff.trans ⟨fun⟨c,h1,h2⟩=>⟨c,O9m,h2⟩,fun⟨c,h1,h2,h3⟩=>?pW⟩,?iX,?fM,ZP,_,_,rfl⟩
     . rintro zs τ G2 ⟨bs,rfl,_,hiff,g,Ev,_⟩;rw[Bv]at hiff;refine⟨D,bs,rfl,.of Ev,_,rfl,?_⟩;ext a5
       . have h2:?k8:=?C
         obtain⟨c,c1,c2,c3⟩:=hiff.mp h2;exact k2 (fun z=>c3 (z i c hi c1 fun e=>c2 ?lJ)) _ (?a4 g)
       . have h2:¬?k8:=?C
         refine⟨_,_,rfl,?a4 g,fun x c hx hc hne=>?_⟩;rcases qg7 x i with h | h
         . exact hS x c h hc hne
         . have:x=i:=O9m
           subst this;exact qg0 fun z=>h2 (hiff.mpr ⟨c,hc,fun e=>hne ?lJ,z⟩)
   . ext bE;refine vG ?_;intro o1 o2 s1 hS Ei;rw[V7]at hS;exact ?u8 ⟨_,_,rfl,s1,hS⟩
 refine mV fun o1 o2 G s1 hS=>?_;intro sq;exact k1 hS _ s1
noncomputable abbrev G9:Stmt:=top 70
theorem Rh:?q ["parts"] ["parts"] (Au G9):=Bh
theorem Ry[?u](F:Er K ?n6 ?n6 G9 f fd)[?t] :?tU ["parts"] Ke:=by
 refine ?uE Rh;obtain⟨a,us,ps,rfl,ha,rU,hpl,kq⟩:=h;refine(?wA (Cc (N':=["part"]) (cap:=?e0) ?f ?N ?eV (?tQ (?wY 0 xH)) (?tQ (W9 (Bf Iy (?xG ?g) Ak ?m))) (?tQ ?g)));refine(?u4 a (?x7 ha));have ul:=rU.len
 let Bf3:?P:=fun i ys τ G=>B6 ?f2 (G D=?dX) (B5 G ys (Ux (?dO i))) ?eZ
 refine aX (K:=K) (a:=a) (xs:=us) Bf3
  (?vR trivial) (fun i ys τ G _ hz=>by obtain⟨h1,_⟩:=hz;exact ?tY h1 ha) ?_ ?_
 . rintro i v ys τ G hv C3;ext i0;intro h1 Ev rY o Ei;have hi:=?fG;obtain⟨p,hp,pv⟩:=rU.get hv;have pv1:=pv.same h1;obtain⟨t,c1,c2,c3,rfl,et,_⟩:=id pv1;have etk:?dO ?aC=?dO i++[p]:=by rw[qf7,hp];rfl
   have yl:ys.length<=1000:=by
    have h2:=rY.len;have h3:=qh9 (fun p:Bs=>?I (p.1≠1)) (?dO i);rw[qc9]at h3;unfold Ux at h2;omega
   ext lV;ext hW
   . have hb3:¬?gT:=?b1
     refine⟨_,rfl,Ev,?aF,h1.turn hD,Ab,?_,_,rfl⟩;rw[etk,EN,?T hb3];exact B5.snoc (B5.put Ev rY) (pv1.put Ev)
   . have hb3:?gT:=?b1
     refine⟨h1,Ev,?_,_,rfl⟩;rw[etk,EN,?a3 hb3];exact rY
 . rintro ys τ G ⟨h1,Ev,rY,_⟩;rw[ul,qd2]at rY;exact kq D ys G hD h1 Ev rY
noncomputable abbrev Um:Stmt:=top 74
theorem gJ:?q ?gX ?gX (Au Um):=Bh
theorem gS[?u](F:Er K ?l9 ?l9 Um f fd)[?t] :?tU ?gX Rf:=by
 refine ?uE gJ;obtain⟨x,d,rfl,hx,k⟩:=h;refine(?wA (Ly (Bc ?eO ?bJ Bz (?tT ?g (Gh (v:=.ty "int") rfl T.n_int ?mE rfl))) (Nq (nV (Bc ?eO ?bJ Bz (?tT ?g (Gh (v:=.ty "bool") rfl T.n_bool Z3 rfl)))))));refine(?vQ ?gB);ext hX
 . refine(?vQ ?iC);have e2:Kd d=!jK "bool" d:=by unfold Kd;rw[e];rfl
   ext dV
 . have e2:Kd d=false:=by unfold Kd;simp[e]
   ext dV
noncomputable abbrev Uo:Stmt:=top 75
theorem GJ:?q ?gE ?gE (Au Uo):=Bh
theorem GS[?u](F:Er K ?kD ?kD Uo f fd)[?t] :By P w K mg ?e Ej 1 f fd ?gE ?jH:=by
 refine ?uE GJ;obtain⟨v,ds,rfl,hs,k⟩:=h;refine(?wA (Bq Jn (Bc (aY ?f) T.n_max AY (?tT Ak ?c2)) Ak))
 obtain⟨t,us,rfl,hq,r⟩:∃t us,v=?k t/\(SqL K H t us\/Dl K H t us)/\?n5:=by
  rcases hs with⟨t,us,e,h1,h2⟩|⟨t,us,e,h1,h2⟩
  . exact⟨t,us,e,?p h1,?rW⟩
  . exact⟨t,us,e,?o h1,?rW⟩
 refine⟨_,rfl,t,us,rfl,hq,_,_,rfl,_,_,rfl,rfl,?_⟩;rw[r];have e:?vY 1=?cJ:=by unfold Di;split<;>split<;>omega
 show Q (?d (?vY 1)) H;rw[e];exact k
noncomputable abbrev Fz:Stmt:=top 77
theorem Fi:?q [?d5,?eT,?gJ] [?d5] (Au Fz):=Bh
theorem Pi[?u](F:Er K ?k1 ?k1 Fz f fd)[?t] :?tU [?d5] Vz:=by
 refine ?uE Fi;obtain⟨a,ms,rfl,ha,hm,k⟩:=h;ext bF
 refine⟨_,(Af (Av (i:=1) Fi.nd Ix)
  (Af (Rw (B8 qb6 rfl (Xb ?g) (?wY 2 Fi.nd) (?xH (?tZ Iy (?wT ?g ?n)) (Xa ?aV ?i ?n (?wT ?g ?n) ?f))))
  (?x0 ?i))),?_⟩
 ext B
 intro D hD;have naD:a≠D:=Ao ha hD;refine ?w1 a (by rw[Aj naD];exact ha);have eX:nd ms:=?g7;refine(?uG a ?aE)
 let Bf2:?bR:=fun i σ H1=>Es fun o1=>B6 (σ=[?z,?G,o1]) (H1 a=?jT) (H1 D=?u6 (Fk (ms.take i))) ((∀c q,c≠a->?rM))
 refine Tl (d:=a) (o:=o) (kvs:=?aE) Bf2
  ⟨?l,rfl,Ab,?_,fun c q n1 n2 e=>by rw[?gU,?eM];exact e⟩ (fun i σ H1 _ hz=>by obtain⟨_,_,e,_⟩:=hz;exact e) ?_ ?_
 . rw[Aj naD.symm,Ab];rfl
 . rintro i kk x σ H1 hx C3
   ext K
   ext tL;ext f9;have hlt:?o4:=?r4;ext tH;refine(?wS a ?qK);have ct:=aW hq;ext a5
   . have e:¬q.2=0:=?C
     rw[?T e]at ct;have ln:(Fk (ms.take i)).length<=1000000:=by have:=jI (ms.take i);rw[qc9]at this;omega
     refine⟨_,rfl,_,rfl,a,?aQ,rfl,?qK,_,rfl,_,rfl,D,_,rfl,Xg Ec ln,?_⟩;refine⟨_,rfl,?_,?_,fun c r n1 n2 e2=>?_⟩
     . rw[Aj naD];exact ha1
     . rw[Ab,put_new (TY (mY eX hq)),ct]
     . rw[?eM];exact hk1 c r n1 n2 e2
   . have e:q.2=0:=?C
     rw[?a3 e]at ct;exact⟨_,rfl,ha1,by rw[ct];exact Ec,hk1⟩
 . rintro σ H1 C3;ext tL;rw[Mb,qd2]at Ec;refine⟨ha1,_,rfl,k D _ hD (fun c q e2=>?_) (by rw[Aj naD.symm];exact Ec)⟩;by_cases z:c=a
   . subst z;rw[ha]at e2;cases e2;exact Ab
   . rw[?bU];exact hk1 c q z (Ao e2 hD) e2
noncomputable abbrev O8:Stmt:=top 80
theorem Jy:?q [?pN,?eT,?d5,?gJ] ?lK (Au O8):=Bh
theorem bS[?u](F:Er K ?kY ?kY O8 f fd)[?t] :?tU ?lK aE:=by
 refine ?uE Jy;obtain⟨g,c,gs,cs,rfl,hg,hc,hmul,kq⟩:=h;ext bF
 refine⟨_,(Af (?vA Jy.nd Ak)
  (Af (Rw (B8 qb6 rfl ?q2 (?uY Jy.nd) (Ai (?vA Jy.nd (Bq Ds ?n (Bq op_mulX (S7 ?aV ?g ?v Ak ?mM) (?wT ?i ?v)))))))
  ?gR)),?_⟩
 ext B
 refine ?o ⟨c,?fJ,hc,?dB⟩;have eX:nd cs:=?g7;refine(?uG c ?fJ);have hcF:upd H c ?g6 c=?c ?g6:=Ab
 have rg:Rd (?qL) g (.dK (cK gs)):=by
  by_cases z:g=c
  . subst z;rw[hg]at hc;injection hc with hc;exact ?o ⟨o,by rw[Ab,hc]⟩
  . exact ?p (by rw[?bU];exact hg)
 have hFk:∀d q,d≠c->H d=?b7->upd H c ?g6 d=?b7:=fun d q n e=>?jO
 generalize ?qL=F0 at hcF rg hFk ⊢
 let Bf1:?bR:=?vM [rS g,rS c,?wE (?rJ),o3]
 refine Tl (d:=c) (o:=o) (kvs:=?fJ) Bf1
  ?pS (fun i σ G _ ?pT=>by rw[←e];exact hcF) ?_ ?_
 . rintro i kk x σ G hx C3
   ext K
   revert σ;ext hV;ext f9;have hat:?vT cs:=?mO;refine⟨_,rfl,_,rfl,g,rfl,?p ⟨_,rg⟩,_,rfl,_,Xh rg,_,rfl,_,rfl,c,?aQ,rfl,?uQ hcF,?kN,q.2,Xk _ _,rfl,hmul q ?f6,_,_,rfl,rfl,?_⟩
   have ew:wF (Bu gs) (cs.take ?aC)=?rJ+?kN*q.2:=by
    rw[qf7,hq,P4,qf4];show _+(q.2*?kN+0)=_;rw[qq4]
   exact⟨?oX,by rw[ew];rfl,rfl⟩
 . ext bE;ext hV;refine⟨hcF,_,rfl,?_⟩;rw[Mb,qd2];refine kq _ fun d q e=>?_;by_cases z:d=c
   . subst z;rw[hc]at e;cases e;exact Ab
   . rw[?bU];exact hFk d q z e
noncomputable abbrev O9:Stmt:=top 82
theorem bK:?q ?kJ ?kJ (Au O9):=Bh
theorem BS[?u](F:Er K ?oD ?oD O9 f fd)[?t] :?tU ?kJ Su:=by
 refine ?uE bK;obtain⟨a,ns,k,rfl,hS,h0,hl,kq⟩:=h
 refine⟨_,(Af (B9 (Bf Pc ?i ?c2 ?m) (?x0 (?vE ?g)) Bo)
  (?x0 Ak)),?_⟩
 ext B
 refine(?v2 _ hS);ext a5
 . have h2:k<(ns.length:Int):=?C
   have e:iK (?kX) k=?wE (Zz ns k):=by
    obtain⟨j,rfl⟩:=qs3 h0;refine Bp ?_;have hj:?sJ:=O9m
    rw[qa9,qa0 hj];simp[Zz,hj]
   exact⟨_,rfl,_,rfl,a,_,k,_,rfl,rfl,hS,e,kq⟩
 . have h2:¬k<(ns.length:Int):=?C
   have e:Zz ns k=0:=by
    unfold Zz;have:ns.length<=k.toNat:=O9m
    simp[this]
   rw[e]at kq;exact kq
noncomputable abbrev Nj:Stmt:=top 83
theorem Im:?q [?cH,?bO,?mT,"_law_faces",?iR] ?kH (Au Nj):=Bh
theorem j3[?u](F:Er K ?iH ?iH Nj f fd)[?t] :?tU ?kH Lm:=by
 refine ?uE Im;obtain⟨v,w,fam,rfl,hv,hw,k⟩:=h;obtain⟨aw,rfl,hq⟩:=hv.sq;have hlen:(?j3).length=w.length:=?jM;have yE:w.length<=4:=by rcases hw with z | z | z<;>omega
 refine⟨_,(Af (?vA Im.nd ?c2)
  (Af (B9 (?tZ Et ?i) (Af (B9 (?tZ Pc ?n) (?x0 ?cK) Bo)
  (Ai (Bb (Cc (N':=[?iR,?cH]) (cap:=?j2) ?f ?N (?uX ?bC) (?tQ (?wY 0 XF)) ?aB (?tQ (Bq ?fW (Eo ?d2 ?i Gf (E9 ?g)) (Eo ?d2 ?i (E9 (?x6 Ds)) Gf))))))) Bo)
  (Af (?wD ?n (Bb ?cK))
  (Af (B9 (?tZ Pc ?i) (Af (?wD ?n (Bb (Hh (?tT ?kA ?kA))))
  (Ai (Bb (Cc (N':=["_law_letter"]) (cap:=?e0) ?f ?N (?u7 Qc ?g) (?tQ (?wY 0 xG)) ?aB (?tQ (D7 ?Z)))))) Bo)
  (Af (?u9 Im.nd (Hh (?xB (Eo ?d2 ?g (E9 Ak) Gf))))
  (Af (B8 qb6 rfl (?uX (?xB (Bq Jn ?n Ak))) (?vI Im.nd) (Ai (?u2 ?v (Bq ?fW (Bq ?fW (Eo ?d2 ?g Gf (E9 ?A)) (D7 (?xB (Bq Jo (Bq Ds (Ba ?bA ?g ?A ?w) (Ba ?bA ?g (Bq Ds ?A Ak) ?w)) ?i)))) (Eo ?d2 ?g (E9 (Bq Ds ?A Ak)) Gf)))))
  (Af (?u2 ?v (Eo ?d2 ?g Gf (E9 (Bq Jn ?n Ak))))
  (?x0 ?v)))))))),?_⟩
 ext B
 refine⟨_,rfl,aw,_,rfl,?o hq,?_⟩;rw[hlen];ext a6;ext a5
 . have hf:?f4:=?C
   subst hf;ext X;ext hW
   . have h3:w.length<2:=by have:?c1<2:=?b1
                            omega
     ext sW;have e:Aw w 0=[]:=by unfold Aw;rw[?aW,?a3 h3]
     rw[e];rfl
   . have h3:¬w.length<2:=by have:¬?c1<2:=?b1
                             omega
     have e:Aw w 0=(?fT ?p3).map ?i6:=by unfold Aw;rw[?aW,?h3]
     rw[e]at k;ext m1
     let Bf0:?P:=?wO (?v7 ?jS ?i6) (?uD [o,rS aw])
     refine Jd Bf0
      ?sG ?_ ?_
     . rintro i ys τ H1 hi C3;ext tI;have hi2:?jY:=?sO
       have hq1:Dl K H1 aw ?fS:=?jE;refine⟨_,rfl,_,rfl,_,rfl,aw,_,rfl,hq1,?_,fun p1 H2 s2 q2=>?_⟩
       . ext m7;rw[?o5,HT.sIx_nat]at z;omega
       refine⟨_,rfl,_,rfl,_,_,rfl,rfl,_,rfl,aw,_,rfl,s2.seqT hq1,?_,fun p2 H3 s3 q3=>?_⟩
       . ext m8;rw[?oZ,HT.sIx_nat]at z;omega
       rw[?o5,Tw]at q2;rw[?oZ,Pw]at q3;refine⟨p1,p2,_,_,rfl,rfl,s3.seqT q2,q3,?_,fun p H4 s4 q4=>?_⟩
       . refine B7 ?_;simp only[qc9,qi6,qa4];omega
       have JB:?h H1 H4:=?kP;have DI:H4 D=?dX:=JB _ _ Ec
       have t4:TI K H4 (?k p) (?s0):=by
        refine ?d3;rw[qb5,qp2,qp3];exact q4
       have r4:?a1 K H4 ys ((?jS ?i6).map tI):=?U JB r1;have hyl:?p9:=by have:=r1.length;ext H
       refine⟨DI,?aF,O9m,(?dI JB).turn hD,Ab,?_,_,rfl⟩;rw[qk4,qb5];exact ?p7
     . rintro ys τ H1 ⟨_,s1,Ec,r1,_⟩;rw[show(?c1).toNat=w.length by omega]at r1;exact ?oM
 . have hf:¬?f4:=?C
   ext a6;ext hW
   . have h3:?nY:=?b1
     ext sW;have e:?bI=[]:=by unfold Aw;rw[?fY,?a3 h3]
     rw[e];rfl
   have h3:¬?nY:=?b1
   ext X;refine ?mS
   . have h5:?fK:=?iV
     ext a6;refine ?cA (fun h6=>?_) (fun h6=>?_)
     . have h7:?oU:=by
        have:?c1=1:=?p8
        omega
       have e:?bI=[[],[]]:=?vF ?a3
       rw[e]at k;refine⟨?aA,fun p1 hp1=>⟨?aA,fun p2 hp2=>⟨?bB,?kU⟩⟩⟩;have s1:?h H (upd H p1 (?x [])):=?y hp1;have s2:?h (upd H p1 (?x [])) (?uJ H):=?y hp2;have s3:?h (?uJ H) (upd (?uJ H) p (?j [?e7,?k p2])):=?bX;have hp0:?vC p:=(?c5).free hp;refine k p _ _ hp0 ((?c5).trans s3) Ab ?_;have t1:TI K _ (?e7) []:=?dZ (?tY s3 (?qU));have t2:TI K _ (?k p2) []:=?dZ (?tY s3 Ab);exact⟨_,_,rfl,t1,_,_,rfl,t2,rfl⟩
     . have h7:¬?oU:=by
        have:¬?c1=1:=?p8
        omega
       have e:?bI=w.map ?fH:=?vF ?T
       rw[e]at k;refine(?u4 aw ?jL)
       let Be9:?P:=?wO (?v7 ?nD ?fH) ?eZ
       refine Vj (xs:=?j3) Be9
        ?sG (fun i ys τ H1 _ hz=>by obtain⟨_,s1,_⟩:=hz;exact ?jE) ?_ ?_
       . rintro i x ys τ H1 hx C3;ext tI;have hi2:?jY:=?hJ
         have hx2:x=?j9:=by
          rw[qa9,qa0 hi2]at hx;simpa using hx.symm
         subst hx2;refine⟨_,rfl,?bB,?kU⟩;have s2:?h H1 (?uM [?j9]):=?bX;have DI:=?s7;have t4:TI K (?uM [?j9]) (?k p) [w[i]]:=?nZ;have r4:=?U s2 r1;ext t1
         refine⟨DI,?aF,O9m,(?c5).turn hD,Ab,?_,_,rfl⟩
         have e2:(?eK ?aC).map (?fH)=?nD (?fH)++[[w[i]]]:=by
          rw[qf7,qa0 hi2,qb5];rfl
         rw[e2];exact ?p7
       . rintro ys τ H1 ⟨_,s1,Ec,r1,_⟩;rw[hlen,qd2]at r1;exact ?oM
   have h5:¬?fK:=?iV
   have hpos:0<fam:=O9m
   have e:?bI=?fL::((?fT (?hP)).map ?lL)++[?mH]:=by
    unfold Aw;rw[?fY,?h3,?T h5]
   rw[e]at k;refine⟨_,rfl,_,rfl,aw,_,rfl,hq,?_,fun p1 H1 s1 q1=>⟨?bB,?a7⟩⟩
   . ext m8;rw[?pL,HT.sIx_nat]at z;omega
   rw[?pL,Pw]at q1;have TR:?eL:=?k6 hD;have s2:?h H1 (upd H1 D (?j [?e7])):=?b2
   have t1:TI K (upd H1 D (?j [?e7])) (?e7) (?fL):=by
    refine ?d3;rw[qp3];exact s2.seqT q1
   have hn:?o1=?hP:=O9m
   refine⟨_,rfl,_,_,rfl,rfl,_,rfl,O9m,O9m,Ck (lo:=0) (n:=?o1)
    (fun i σ H2=>Ij fun(ys:?cX) ?eE=>B6 (σ=[rS aw,?S,?wE ?p3,?G,o]) ?bH (H2 D=?dX) (?a1 K H2 ys (?vK ?pM)))
    ⟨_,?l,rfl,?c5,Ab,⟨_,_,rfl,t1,rfl⟩⟩ ?_ ?_⟩
   . ext dU
     ext K
     ext dS;intro ys o sH Op r2 Ei;rw[hn]at hi;ext tJ;have c0:?nL:=O9m
     have c1:?vJ 1 1:=O9m
     have c2:?vJ 2 2:=O9m
     have at0:iK ?fS (?cI)=?wE (w.getD i 0):=by
      rw[c0];refine Bp ?_;rw[qa9,qa0 (by omega)];simp[show ?jY by omega]
     have at1:iK ?fS (?cI+1)=?wE (?iP):=by
      rw[c1];refine Bp ?_;rw[qa9,qa0 (by omega)];simp[show i+1<w.length by omega]
     refine⟨_,rfl,?p ⟨rfl,_,SqL.of Op⟩,?_⟩;refine⟨_,rfl,_,rfl,_,rfl,aw,_,rfl,hq2,?_,?s9⟩
     . ext m7;rw[c0,HT.sIx_nat]at z;omega
     rw[c0,Tw]at qa;refine⟨_,rfl,_,rfl,aw,_,_,_,rfl,rfl,?rS,at0,_,rfl,_,rfl,_,_,rfl,rfl,aw,_,_,_,rfl,rfl,?rS,at1,_,_,rfl,rfl,_,rfl,_,_,rfl,rfl,hpos,?bB,fun pb hb=>?_⟩;have sb:?h Ha (upd Ha pb (?x [?d ((w.getD i 0+?iP)%fam)])):=?y hb;refine⟨pa,pb,_,_,rfl,rfl,sb.seqT qa,?cT,?g2,fun pc Hc sc qc=>?_⟩;have sac:=(sa.trans sb).trans sc;refine⟨_,rfl,_,rfl,_,_,rfl,rfl,_,rfl,aw,_,rfl,sac.seqT hq2,?_,fun pd Hd sd qd=>?_⟩
     . ext m8;rw[c2,HT.sIx_nat]at z;omega
     rw[c2,Pw]at qd;refine⟨pc,pd,_,_,rfl,rfl,sd.seqT qc,qd,?g2,fun pe He se qe=>?_⟩;have NG:=(sac.trans sd).trans se;have hDe:=NG _ _ Op
     have te:TI K He (?k pe) (?j4):=by
      refine ?d3;simp only[qb5,qp2,qp3,qe0,qt6];exact qe
     have hyl:ys.length=i+1:=by have:=r2.length;ext H
     refine⟨D,_,_,rfl,rfl,hDe,?aF,?_⟩;refine⟨_,_,rfl,(?e5 NG).turn TR,Ab,?_⟩
     have e3:(?fL::((?fT ?aC).map ?lL)) =
      (?pM)++[?j4]:=by
      rw[qk4,qb5];rfl
     rw[e3];exact No hDe (?U NG r2) te
   . rintro σ H2 C3;ext dS;intro ys o sH Op r2 Ei;rw[hn]at r2;ext tJ;have c1:(?c1-1)=((?hP:Nat):Int):=O9m
     refine⟨_,rfl,?p ⟨rfl,_,SqL.of Op⟩,_,rfl,_,rfl,_,_,rfl,rfl,_,rfl,aw,_,rfl,hq2,?_,?s9⟩
     . ext m7;rw[c1,HT.sIx_nat]at z;omega
     rw[c1,Tw]at qa;have hDa:=sa _ _ Op
     have ta:TI K Ha ?oQ (?mH):=by
      refine ?d3;rw[qp2];exact qa
     have hyl:ys.length=w.length:=by have:=r2.length;simp at this;omega
     refine⟨D,_,_,rfl,rfl,hDa,?aF,?_⟩;ext fE;exact k D _ _ TR ((?e5 sa).turn TR) Ab (No hDa (?U sa r2) ta)
noncomputable abbrev O7:Stmt:=top 84
theorem Cn:?q [?iS,?bO,?sH,?mT,"_law_base",?cH,?jK] ?kG (Au O7):=Bh
theorem BR[?u](F:Er K ?l5 ?l5 O7 f fd)[?t] :?tU ?kG Ss:=by
 refine ?uE Cn;obtain⟨c,fam,letters,rfl,hl0,hl1,hf,k⟩:=h;have m1:0<=?aG:=?rK;have m2:?aG<4:=?i4
 refine⟨_,(Af (?uF 0 (?x6 Jo))
  (Af (?u9 ?aK (?x6 Jo))
  (Af (?uF 4 ?n)
  (Af (?wD ?i (?u9 ?aK (Bq Ds ?v Ak)))
  (Af (?x2 (?wM (?tZ Pc ?i) ?v) (?u9 ?aK Ak))
  (Af (?x2 (?tZ OA ?i) (?uF 4 ?i))
  (Af (?uF 0 (?x6 Xc))
  (Af (?uF 5 ?kA)
  (Af (B8 qb6 rfl (?uX ?fU) (?wY 6 ?aK) (Af (?uF 5 (Bq ?fW ?aO (D7 (?xB (Bq Jo ?g ?A)))))
  (Ai (?uF 0 (Bq Xc ?g ?A)))))
  (?x0 ?aO)))))))))),?_⟩
 ext B
 refine(?wU 1000000);refine(?wU 4);ext fE;have fork:(?f4)\/(?fK/\?aG=1)\/(?fK/\¬?aG=1)\/0<fam:=O9m
 have oF:¬?f4->¬(?q8):=fun z q=>z (by simpa using q);have Ai8:?f4->?q8:=fun z=>by simp[z]
 have hb0:0<letters:=hl0;have hb1:letters<1073741824:=O9m
 rcases fork with hz|⟨hz,h1⟩|⟨hz,h1⟩ | hz
 . ext a6;refine cC (Ai8 hz) ?_;refine ?oS;ext X;ext bD;ext fB;ext X;ext bD;have hW:∀w:?gV,w.length=(?aG+1).toNat->?l0:=fun w e=>?p ⟨hz,O9m,O9m⟩;ext hQ
   refine Ck (lo:=0) (n:=(?aG+1:Int).toNat)
    (?tV (?x4 (?aG+1) ?cC))
    ?gM ?_ ?_
   . ext dU
     ext K
     ext lR
   . ext hR
 . ext a6;refine ?lQ;ext X;ext m6;ext a6;refine ?v6 (eqI h1);ext X;ext bD;have hW:?qO:=fun w e=>?o (?p ?mP);ext hQ
   refine Ck (lo:=0) (n:=?pV)
    (?tV (?x4 (?aG) ?cC))
    ?gM ?_ ?_
   . ext dU
     ext K
     ext lR
   . ext hR
 . ext a6;refine ?lQ;ext X;ext m6;ext a6;refine cC (neI h1) ?_;ext X;ext bD;have hW:∀w:?gV,w.length=?q9->?l0:=fun w e=>?o (?p ⟨hz,?o (?o e)⟩);ext hQ
   refine Ck (lo:=0) (n:=?q9)
    (?tV (?x4 (3) ?cC))
    ?gM ?_ ?_
   . ext dU
     ext K
     ext lR
   . ext hR
 . ext a6;refine ?lQ;ext X;ext bD;ext fB;ext X;ext m6;ext fE;have hW:?qO:=fun w e=>?o (?o ?mP);have hb0:0<fam:=hz;have hb1:fam<1073741824:=O9m
   ext hQ
   refine Ck (lo:=0) (n:=?pV)
    (?tV (?x4 (?aG) ?S))
    ?gM ?_ ?_
   . ext dU
     ext K
     revert σ;refine V6 ?_;intro c' v o w s2 tv hwl Ei;obtain⟨a,rfl,Ww⟩:=tv.sq;refine ?rR;have s3:?vG pt (?x [?d (c'%fam)]):=?y yC;refine ?oH;refine ?nR;refine(?w3 [c'%fam]);rw[qb5];exact q3
   . ext hR
noncomputable abbrev Hz:Stmt:=top 3
theorem Sy:?q ?fZ ?fZ (Au Hz):=Bh
theorem S9[?u](F:Er K ?jX ?jX Hz f fd)[?t][?m0]:?tR ?fZ G0:=by
 refine ?uE Sy;obtain⟨x,d,b,rfl,hx,k⟩:=h;refine(?wA (Ly (An Fo hr ?Z) (Nq (nX JC Pc Ak ?g ?i))));refine⟨_,rfl,x,d,rfl,hx,_,rfl,?_⟩;ext hX
 . obtain⟨i,rfl⟩:=FY e;cases (show x=?aM from hx);ext X;refine ?cA (fun e1=>?_) (fun e1=>?_)
   . refine ?oS;have e2:?l1=?k9:=by show(?I (0<=i)&&?k9)=_;rw[e1];rfl
     ext dV
   . have e2:?l1=false:=by show(?I (0<=i)&&?k9)=_;simp at e1;simp;omega
     ext dV
 . have e2:belowD d b=false:=by
    cases d<;>first | rfl | (exfalso;exact e rfl)
   ext dV
noncomputable abbrev gK:Stmt:=top 15
theorem W8:?q [?dL,?cU,?lM,?dG,?a8] ?fV (Au gK):=Bh
theorem SK[?u](F:Er K ?iA ?iA gK f fd)[?t][?t2]:?tR ?fV iZ:=by
 refine ?uE W8;obtain⟨a,b,ms,ns,rfl,ha,hb,hm,hn,k⟩:=h
 refine⟨_,(Af (?vA W8.nd (Cj Gq ?f ?kL Du ?Z))
  (Af (Rw (B8 qb6 rfl (Pb ?i) (?w9 (?uY W8.nd) (?vI W8.nd)) (Ai (Bx (?wC Qe (Aa ?n (?tT ?v ?A)))))))
  ?gR)),?_⟩
 ext B
 refine⟨_,rfl,a,?aE,rfl,ha,?a7⟩;have DH:b≠D:=?mN;refine ?o ⟨b,?hF,(by rw[Aj DH];exact hb),?dB⟩;refine(?uG b ?hF)
 let Be8:?bR:=fun i σ H1=>Ij fun o1 o2=>B6 (σ=[?z,?aU,?G,o1,o2]) (H1 b=?c (?vD ?hF)) (H1 D=?u6 (?sP)) ((∀c q,c≠b->?rM))
 refine Vd (d:=b) (o:=o) (kvs:=?hF) Be8
  ⟨?l,?l,rfl,Ab,?_,?_⟩ (fun i σ H1 _ hz=>by obtain⟨_,_,_,e,_⟩:=hz;exact e) ?_ ?_
 . rw[?l6,Ab];rfl
 . intro c q n1 n2 e;rw[?gU,?eM];exact e
 . rintro i kk x σ H1 p hx C3 hp
   ext K
   ext dS;intro o1 o2 hb1 Ec hk1 Ei;ext f9;have npb:b≠p:=Ao hb1 hp;have npD:D≠p:=Ao Ec hp;have hlt:?lG:=?r4;ext hS;refine⟨_,rfl,_,rfl,_,rfl,D,?sP,q.1,q.2,rfl,(by rw[Aj npD];exact Ec),?_,?_⟩
   . have:=EU (ns.take i) ms;rw[qc9]at this;omega
   . refine⟨_,_,rfl,?_,?_,fun c r n1 n2 e=>?_⟩
     . rw[Aj DH,Aj npb];exact hb1
     . rw[Ab,kZ hq]
     . rw[?eM,Aj (Ao (?nF) hp)];exact ?nF
 . rintro σ H1 C3;ext dS;intro o1 o2 hb1 Ec hk1 Ei;rw[Mb,qd2]at Ec;refine⟨hb1,_,rfl,k D _ hD (?lB) (?kK)⟩;by_cases z:c=b
   . ext m2
   . rw[?bU];exact hk1 c q z ?pI e
noncomputable abbrev Hf:Stmt:=top 33
theorem Ri:?q ?h4 ?h4 (Au Hf):=Bh
theorem Rz[?u](F:Er K ?iN ?iN Hf f fd)[?t][?lZ]:?tR ?h4 Dq:=by
 refine ?uE Ri;obtain⟨a,i,xs,rfl,hL,Jv,k⟩:=h;obtain⟨us,hq,V7⟩:=LT.len hL;obtain⟨_,us',z,hq',r⟩:=id hL;refine⟨_,(Ai (Bb (Cc (N':=[?dG,"piece","k"]) (cap:=?rO) ?f ?N (?vP S6 ?Z) (?tQ (?w9 (?wY 0 uY) (?wY 1 uY))) (?tQ (W9 (Bf Et (?wC Fn ?W) ?n ?m))) (?tQ ?g)))),?_⟩;cases z;refine(?u4 a ⟨us',hq'⟩);have A37:us'.length=xs.length:=?oW
 let Be7:?P:=fun j ys τ H1=>Dp (j<=us'.length) ?cZ ?bN (ys=(Ur xs i j).map ?J) (?vU [o1,o2,?aN])
 refine AX (K:=K) (a:=a) (xs:=us') Be7
  ⟨?aA,?b2,Ab,rfl,?l,?l,rfl⟩ (fun j ys τ H1 _ hz=>by obtain⟨_,s1,_⟩:=hz;exact ?bV hq') ?_ ?_
 . rintro j v ys τ H1 p hv C3 hp;revert τ;refine vB ?_;intro hj s1 Ec hys o1 o2 Ei;have hj2:j<us'.length:=?fG;have hj3:j<xs.length:=O9m
   obtain⟨dv,pC,rv⟩:=r.getV hv
   have edv:dv=tI (?jW):=by
    rw[qa9,qa0 hj3]at pC;rw[qa7,qa0 hj3];simpa using pC.symm
   subst edv;have sp:?h H1 (?uM [?d j,v]):=?bX;ext hS;refine⟨_,rfl,v,?mU,rfl,?o (?bM (?hA) rv),_,rfl,rfl,_,rfl,?_⟩;rw[show(?mU).length=?q6 from ?jM];have ZT:(?uM [?d j,v]) D=?dX:=sp _ _ Ec;have yl:ys.length<=j:=by rw[hys,qa4];exact F4 ..
   ext hW
   . have h3:?rF:=?b1
     refine⟨_,rfl,ZT,?aF,O9m,(?hA).turn hD,Ab,?_,_,_,rfl⟩;rw[NR h3,qb5,hys];rfl
   . have h3:¬?rF:=?b1
     refine⟨O9m,?hA,ZT,?_,_,_,rfl⟩;rw[RW h3];exact hys
 . rintro ys τ H1 ⟨_,s1,Ec,hys,_⟩;rw[A37]at hys;refine k D H1 hD s1 ?_;rw[Ec,hys];rfl
noncomputable abbrev Fw:Stmt:=top 37
theorem Oz:?q ?gQ ?gQ (Au Fw):=Bh
theorem Pe[?u](F:Er K ?lN ?lN Fw f fd)[?t][?m0]:?tR ?gQ Iw:=by
 refine ?uE Oz;obtain⟨a,n,f,rfl,hq,hn,k⟩:=h;refine⟨_,(Ai (Bb (Ly (?wB ?eO ?g) (Ly (Le Et ?c2 ?i ?m) (?xF Nq (Cc (N':=[?a8]) (cap:=?e0) ?f ?N ?eV (?tQ (?wY 0 OJ)) ?aB (?tQ (?wC Fo ?Z)))))))),?_⟩;refine⟨_,rfl,?dY,?eC,dL n f,rfl,?o (?o (?o (?iC))),pU hq,_,rfl,?_⟩;refine cC (by simp[jK,dL]) ?_;refine⟨_,rfl,a,_,rfl,?gL,_,rfl,rfl,_,rfl,?_⟩;refine cC (isI (?n1)) ?_;ext hU
 let Be6:?P:=?wI ?eZ
 refine Cp (K:=K) (a:=a) (xs:=VI n f) Be6
  ?eX (?uH ?fF) ?_ ?_
 . ext hT;ext m5;obtain⟨hi,rfl⟩:=Vn hx;refine⟨_,rfl,_,?d (f i),rfl,rfl,Ec,?dE ?dW,?iJ,Ab,?_,_,rfl⟩;rw[qu0,qb5];rfl
 . ext m3;refine⟨D,?qN,rfl,?kO,?_⟩;rw[?w6 ?qN];exact ?eS
noncomputable abbrev Ul:Stmt:=top 39
theorem GI:?q ?i2 ?i2 (Au Ul):=Bh
theorem GR[?u](F:Er K ?sI ?sI Ul f fd)[?t](cG:Has P w K mg ?e "column" [?aL,"j"] 1 (aC K)):?tR ?i2 Hv:=by
 refine ?uE GI;obtain⟨v,h,w,f,rfl,hv,hh,hw,k⟩:=h;refine(?wA (Cc (N':=["j",?aL]) (cap:=?j2) ?f ?N (?uX ?W) (?tQ (?wY 0 xN)) ?aB (?tQ (An cG hr (Aa ?i ?Z)))));ext m1
 let Be5:?P:=fun i ys τ H1=>Es fun as=>B6 (as.length=i) (ys=?aT) (Rows H H1 D as h (fun i j=>f j i)) (?uD [o,?a0])
 refine Jd Be5
  ?i5 ?_ ?_
 . ext tM;have hi2:i<w:=O9m
   refine⟨_,rfl,_,rfl,v,h,w,i,f,?qP,?nI,hh,hi2,?iB⟩;ext lS
 . ext lU
noncomputable abbrev GK:Stmt:=top 41
theorem RH:?q ?hO ?hO (Au GK):=Bh
theorem sM[?u](F:Er K ?kS ?kS GK f fd)[?t](Zg:Has P w K mg ?e "one_row" [?k4,"i"] 1 (Xv K)):?tR ?hO bI:=by
 refine ?uE RH;obtain⟨n,rfl,hn,k⟩:=h;refine(?wA (Cc (N':=["i",?k4]) (cap:=?j2) ?f ?N (?uX ?Z) (?tQ (?wY 0 xM)) ?aB (?tQ (An Zg hr (Aa ?i ?Z)))));ext m1
 let Be4:?P:=fun i ys τ H1=>Es fun as=>B6 (as.length=i) (ys=?aT) (Rows H H1 D as n (?uP 0)) (?uD [o,iS n])
 refine Jd Be4
  ?i5 ?_ ?_
 . ext tM;refine⟨_,rfl,_,rfl,n,i,?qP,hn,?iB⟩;ext lS
 . ext lU
noncomputable abbrev Ng:Stmt:=top 43
theorem F3:?q [?g4,?aL,?aZ,?lM,?a8,?dC] ?kI (Au Ng):=Bh
theorem i7[?u](F:Er K ?lF ?lF Ng f fd)[?t][?lY]:?tR ?kI Qw:=by
 refine ?uE F3;obtain⟨x,v,h,w,a,f,rfl,hx,hv,hh,hw,hm,k⟩:=h;obtain⟨tb,us,rfl,hq,V7,N2⟩:=?g9
 refine⟨_,(Af (?u9 ?gC (Bq NZ (Hh (?xB Ak)) ?n))
  (Af (B8 qb6 rfl (bP (K:=K) ?f T.n_zip ?cV) (?w9 (?vI ?gC) (?wY 5 ?gC)) (Ai (Av (i:=3) ?gC (?wC Ie (Aa Ak (Aa ?v (?tT ?A ?aO)))))))
  (?x0 ?v))),?_⟩
 ext B
 refine ?u0 (fun σ' H'=>Es fun T=>B6 (σ'=[rS x,rS tb,iS w,rS T,none,none]) (H T=none) ?cQ (H' T=?c (?j (VI w fun _=>0))))
 . refine⟨?bB,fun l0 hl0=>?_⟩;have s0:?h H (?vS l0 [?d 0]):=?y hl0;refine⟨_,rfl,l0,_,_,rfl,rfl,Ab,O9m,O9m,?g2,?p1⟩;refine ?u8 ⟨T,rfl,s0.free hT,s0.trans (?y hT),?_⟩;rw[Ab,qe6,YY]
 refine Vs fun T0 H1 hT0 s1 hT1=>?_;intro sq;refine⟨_,rfl,_,rfl,x,tb,rfl,⟨_,?bV hx⟩,⟨_,?fF⟩,?_⟩
 refine TU (K:=K) (a:=x) (b:=tb) (xs:=VI h a) (ys:=us) (n:=h) (by rw[Bv,V7,qw5]) (fun i σ H2=>Qt fun T o1 o2=>B6 (σ=[rS x,rS tb,iS w,rS T,o1,o2]) (?vC T) ?bH (H2 T=?u1 (VI w fun j=>Am (fun k=>a k*f k j) i)))
  ⟨T0,?l,?l,rfl,hT0,s1,hT1⟩ (fun i σ H2 _ hz=>by obtain⟨_,_,_,_,_,s2,_⟩:=hz;exact⟨?e6 hx,?e6 hq⟩) ?_ ?_
 . rintro i u v σ H2 pr hu hv C3 hp;ext fC;intro T o1 o2 hT s2 hT2 Ei;obtain⟨hi,rfl⟩:=Vn hu;obtain⟨_,b,rfl,hb⟩:=N2 i _ hv;have sp:?vG pr (?x [?d (a i),?k b]):=?bX;ext t8;refine⟨_,rfl,_,rfl,_,rfl,1,a i,T,b,w,_,f i,rfl,?tY sp hT2,(?k7).seq hb,O9m,fun j hj=>⟨?qR,hm i j hi hj⟩,fun D H3 hD s3 AR=>?_⟩;refine⟨D,_,_,rfl,(?k7).free hD,(?k7).trans s3,?_⟩;rw[AR]
   congr 2
   refine P1 fun j hj=>?_;show 1*_+_=Am _ i+_;rw[qd5]
 . rintro σ H2 C3;ext fC;intro T o1 o2 hT s2 hT2 Ei;exact⟨_,rfl,k T H2 hT s2 hT2⟩
noncomputable abbrev O5:Stmt:=top 47
theorem Nd:?q [?gA,?iU,?a8,"i","face"] ?nA (Au O5):=Bh
theorem BQ[?u](F:Er K ?qJ ?qJ O5 f fd)[?t][?t2]:?tR ?nA Sr:=by
 refine ?uE Nd;obtain⟨a,v,ms,fs,n,rfl,ha,hv,hm,kq⟩:=h;obtain⟨af,rfl,sq⟩:=TI.sq hv;refine⟨_,(Ai (B8 qb6 rfl (?vP nU ?W) (?w9 (?uY Nd.nd) (?vI Nd.nd)) (Ai (Bx (?wC Qe (Aa ?g (?tT ?A (Yi (Bf Et (Bq Jo ?v Ak) Ak ?m) ?n (Mn Ht ?n))))))))),?_⟩
 let Be3:?bR:=fun i σ H1=>∃o1 o2,σ=?r8/\M4 a H H1/\H1 a=?u6 (?o0)
 refine⟨_,rfl,af,rfl,⟨_,sq⟩,LU (K:=K) (a:=af) (xs:=?pY) Be3
  ⟨?l,?l,rfl,fun _ _ _ e=>e,ha⟩ (fun i σ H1 _ ⟨_,_,_,s1,_⟩=>Dl.x s1 ha sq) ?_ ?_⟩
 . rintro i x σ H1 p hx C3 hp
   ext K
   refine ex2 ?_ C3;clear C3;intro o1 o2 C3;refine Bb2 ?_ C3;clear C3;rintro rfl s1 ha1;have hi:i<fs.length:=?hJ
   have hxv:x=?eG:=by
    ext t9
   subst hxv;have sp:?h H1 (?uM [?aM,?eG]):=?bX;have ha2:=sp _ _ ha1;have hl:=U1 ms fs n i;ext hS
   have fin:∀m,m=e9 n i->P7 K [?dY,?eG,?d m] (?uM [?aM,?eG]) (fun v H'=>∃o1 o2,([?z,rS af,iS n,?kZ,?c (?eG)]:St)=?r8/\M4 a H H'/\H' a=?u6 (Gz ms fs n ?aC)) E0:=by
    intro m hm2;subst hm2;refine⟨a,?o0,_,_,rfl,ha2,O9m,_,_,rfl,fun c q n1 e=>?_,Ab⟩;rw[?gU];exact sp _ _ (s1 c q n1 e)
   refine⟨_,rfl,_,rfl,_,rfl,_,_,rfl,rfl,(?uB 2),rfl,_,rfl,?_⟩;ext a5
   . have h2:?bP%2=0:=?C
     exact⟨_,rfl,fin n (by unfold e9;rw[?a3 h2])⟩
   . have h2:¬?bP%2=0:=?C
     exact⟨_,rfl,_,rfl,fin (-n) (by unfold e9;rw[?T h2])⟩
 . rintro σ H1 ⟨o1,o2,rfl,s1,ha1⟩;rw[qa4]at ha1;exact kq H1 s1 ha1
noncomputable abbrev X9:Stmt:=top 53
theorem Uf:?q ["lines",?d9,?lM,"i"] ?l3 (Au X9):=Bh
theorem LB[?u](F:Er K ?jQ ?jQ X9 f fd)[?t][?lY]:?tR ?l3 X2:=by
 refine ?uE Uf;obtain⟨r,u,as,n,W,f,t,rfl,x,hu,hm,hn,hW,k⟩:=h;have hq:SqL K H r (?aT):=.of x.2.1
 refine⟨_,(Af (?vA Uf.nd (Cj (?x9 F8) ?f ?eR Ez ?Z))
  (Af (?u9 Uf.nd ?cP)
  (Af (B9 (Bf Et ?cP Np ?m) (Ai (?xD (Cc (N':=[?a8]) (cap:=?e0) ?f ?N (?u7 Cd ?eY) (?tQ (?wY 0 OJ)) ?aB (?tQ (Mn Ht ?g))))) (Ai (B9 (Bf Et ?cP Np ?m) (Af (?xD (?x3 ?g ?cP))
  (Ai (Kn ?eY (Ko ?n ?cP Fh)))) (Ai (?xD (?wC Ie (Aa Ak (Aa ?eY (?tT ?cP (?x3 ?g ?cP))))))))))
  ?gR))),?_⟩
 ext B
 refine⟨_,rfl,r,?aT,rfl,?gL,fun L hL=>?_⟩;have sL:?h H (?mQ):=?y hL;generalize hHL:?mQ=HL at sL;have hLL:HL L=?u1 (?aT):=by rw[←hHL];exact Ab
 have hqL:SqL K HL r (?aT):=?f3 hq
 have fin:∀(i:Nat) (D:Addr) (H1:Hp),i<n->HL D=none->?qF->H1 D=?u1 (VI W (QY t f i))->(∀r,r≠i->QY t f r=f r)->H1 L=?u1 (?aT)/\?vZ Q (?k L):=by
  intro i D H1 hi hD s1 h1 he;have nDL:D≠L:=fun z=>by rw[z,hLL]at hD;cases hD
  refine⟨s1 _ _ hLL,?_⟩;have s2:?vZ ?h H:=(sL.trans s1).turn hL;refine k L (as.set i D) _ hL s2 (x.made s2 hi Ab (by rw[Aj nDL];exact h1) he) ?c3;rcases qm3 ha with ha | rfl
  . exact⟨?p ha,fun z=>x.there.2 a ha (z▸hL)⟩
  . exact⟨?o (sL.free hD),nDL⟩
 cases t with
 | sw i j=>exact hm.elim
 | mi i =>
   have hi:i<n:=hm;obtain⟨ta,vs,rfl,hT,rT⟩:=hu;obtain⟨_,_,rfl,rfl,_,_,rfl,rfl,rfl⟩:=rT;have hT1:Dl K HL ta [V.str "minus",?J i]:=?s4;obtain⟨b,_,eb,_,hb⟩:=?r1;ext tK;ext lW;refine cC ?eI ?_;refine⟨_,rfl,_,rfl,r,_,_,_,rfl,rfl,hqL,Bp eb,b,rfl,⟨_,?f3 hb⟩,?a7⟩
   let Be2:?P:=fun c ys τ H1=>B6 (?qF) ?bN (ys=VI c (fun c=>-(f i c))) ?eZ
   refine Cp (K:=K) (a:=b) (xs:=VI W (f i)) Be2
    ?eX (fun c ys τ H1 _ hz=>by ext fD;exact ?bV (?f3 hb)) ?_ ?_
   . rintro c y ys τ H1 hx C3;ext i0;ext m5;obtain⟨hc,rfl⟩:=Vn hx;refine⟨_,rfl,_,rfl,Ec,?dE (by rw[Bv];omega),?iJ,Ab,?_,_,rfl⟩;rw[T3]
   . ext m3;rw[Bv]at Ec;ext sR
     ext sV
 | ad i j m =>
   obtain⟨hi,hj,hij,hm⟩:=hm;obtain⟨ta,vs,rfl,hT,rT⟩:=hu;obtain⟨_,_,rfl,rfl,_,_,rfl,rfl,_,_,rfl,rfl,_,_,rfl,rfl,rfl⟩:=rT;have hT1:Dl K HL ta [V.str "add",?J i,?J j,?J m]:=?s4;obtain⟨bi,_,ebi,_,hbi⟩:=?r1;obtain⟨bj,_,ebj,_,hbj⟩:=?u7 x.row hj;ext tK;ext lW;refine ?nC;ext lW;refine ?nC;refine⟨_,rfl,_,rfl,r,_,_,_,rfl,rfl,hqL,Bp ebi,_,rfl,ta,_,_,_,rfl,rfl,hT1,rfl,_,rfl,_,rfl,ta,_,_,_,rfl,rfl,hT1,rfl,r,_,_,_,rfl,rfl,hqL,Bp ebj,?_⟩;refine⟨1,m,bi,bj,W,f i,f j,rfl,?f3 hbi,?f3 hbj,hW,fun c hc=>⟨?qR,hm c hc⟩,?oT⟩;ext sR
   ext sV
noncomputable abbrev E7:Stmt:=Ex ?pO 2
theorem C6:?q [?c6,"i","j",?dL,?cU,"papers","a","b","c","d",?dC,"back"] ?r3 (Au E7):=Bh
theorem Ph[?u](F:Er K "blend" "Lines.blend" E7 f fd)[?t](Gi:Has P w K mg ?e "shared_divisor" ?fV 1 (V2 K))[?lY]:?wW ?r3 Mh:=by
 refine ?uE C6;obtain⟨p,C,r,b,sv,n,W,i,j,A,B,s,N,rfl,hC,x,hi,hj,hij,hn,hW,hA,hB,lA,lB,bo,k⟩:=h;ext sU;obtain⟨pr,pb⟩:=x.refs;have rb:=x.ne
 have hc:?q5:=by
  rcases hC with rfl | rfl
  . ext t7
  . ext t4
 refine⟨_,(Af (Av (i:=5) ?c4 (?wC Gi (?tT ?v ?A)))
  (Af (?wJ 6 ?hN)
  (Af (?wJ 7 ?hN)
  (Af (?wJ 8 (Mn Ht (Bq Kq ?A ?hN)))
  (Af (?wJ 9 (Bq Kq ?v ?hN))
  (Af (?wJ 10 (?x3 ?a2 ?i))
  (Af (?xI ?bW (?v4 10 ?d4))
  (Af (?x8 ?cL (?v4 10 ?cY))
  (Af (?wJ 11 (?vE ?a2))
  (Af (?xI ?cY (?v4 11 (Mn Ht ?cL)))
  (Af (?x8 (Mn Ht ?d4) (?v4 11 ?bW))
  (?x0 ?aO)))))))))))),?_⟩
 ext B
 refine ?u0 (fun σ' H'=>T7 fun(L:Addr) (g a c:Int)=>B6 (σ'=[?aP,?aN,iS j,iS A,iS B,?aH,none,none,none,none,none,none]) ?cQ (Dl K H' L ?q7) (Lat.Shares A B g a c))
 . exact⟨_,rfl,_,rfl,A,B,rfl,hA,hB,lA,lB,fun L g a c H1 s1 hL sh=>?u8 ⟨L,g,a,c,rfl,s1,hL,sh⟩⟩
 refine Ab0 fun L g a c H1 s1 hL sh=>?_;intro sq;have g0:=sh.pos;have lg:g.natAbs<L9:=qb8 (Nat.le_of_dvd (Int.natAbs_pos.mpr O9m) (qt7.mpr sh.dA)) lA;have cb:∀z:Int,Vr z g:=fun z=>Vr.of9 O9m lg;have la:a.natAbs<L9:=qb8 sh.la lB;have lc:c.natAbs<L9:=qb8 sh.lb lA;have eB:B.fdiv g=B / g:=?n9;have eA:A.fdiv g=?cW:=?n9;have lz':(B / g).natAbs<L9:=qb8 ?oV lB;have lz:(-(B / g)).natAbs<L9:=by rw[qc4];exact lz'
 have lu:(?cW).natAbs<L9:=qb8 ?oV lA;have hp1:=?oJ;have hr1:=s1 _ _ xa.2.1;obtain⟨ci,_,mS,mci,lS⟩:=?mI;obtain⟨cj,_,ZU,mcj,hcj⟩:=?u7 ?lA hj;obtain⟨di,_,edi,mdi,hdi⟩:=?u7 xb.row hi;obtain⟨dj,_,edj,mdj,hdj⟩:=?u7 xb.row hj;have mk:∀{u:Int}{k c U:Nat}{f:Lat.Mat},u.natAbs<L9->Lat.Bits n U big f->k<n->c<U->IntMulOk u (f k c):=fun h1 h2 h3 h4=>GW h1 (h2 _ _ h3 h4);ext tP;ext tP;refine⟨_,rfl,_,rfl,L,_,_,_,rfl,rfl,hL,rfl,_,_,rfl,rfl,cb _,_,rfl,?_⟩;refine⟨_,rfl,_,rfl,L,_,_,_,rfl,rfl,hL,rfl,_,_,rfl,rfl,cb _,?_⟩;refine⟨_,rfl,p,C,dx,fs,_,rfl,hp1,?V,?cF,l1,_,rfl,r,_,_,_,rfl,rfl,.of hr1,Bp mS,?_⟩;refine As (fun σ' H'=>?tX a/\H1=H') ?_ fun key=>?u8 ⟨by rw[←eA,←eB];rfl,rfl⟩;ext dT;refine qw7 (fun σ' H'=>Es fun D1=>M9 (?tX a) (Vq r b H1 H') (Kp H1 H') (H1 D1=none) (H' b=H1 b) (?wR r (?nS)) (?wR D1 (VI W fun k=>a*s.1 i k+c*s.1 j k))) ?D ?_
 . refine⟨_,rfl,_,rfl,_,rfl,_,rfl,p,C,dx,fs,_,rfl,hp1,?V,?cF,l1,_,rfl,r,_,_,_,rfl,rfl,.of hr1,Bp ZU,?_⟩;refine⟨a,c,ci,cj,W,s.1 i,s.1 j,rfl,?bV lS,?bV hcj,hW,?v5 la lc,fun D1 H2 Ec s2 h2=>?_⟩;have nD:D1≠r:=fun z=>by rw[z,hr1]at Ec;cases Ec
   refine⟨_,rfl,p,C,dx,fs,_,rfl,(?wV hp1),?V,?cF,l1,_,rfl,r,_,_,i,rfl,rfl,?wV hr1,J3 (by rw[qa4,xa.1];exact hi),?_⟩;exact ?u8 ⟨D1,rfl,(?e4 s2).l,?wG s2,Ec,by rw[?sL,?wV (?cS),?cS],Ab,by rw[?gP];exact h2⟩
 refine iT fun D1 H3 qS kp3 n1 b3 r3 d3=>?_;intro sq;have hp3:=qS _ _ pr pb hp1;have kr:?vL as:=?uS na na;have kb:?vL bs:=?uS nb nb;have qr:∀{G:Hp}{k:Nat}{c:Addr},?k0->c∈as->SqL K H c (VI W (s.1 k))->as[k]?=?c c->SqL K G c (VI W (s.1 k)):=fun fr hc _ e=>.of (kr fr hc _ (xa.2.2 _ _ e));have rci:as[i]?=?c ci:=by rw[qa9]at mS;obtain⟨z,e1,e2⟩:=?hB mS;cases e2;exact e1
 have rcj:as[j]?=?c cj:=by rw[qa9]at ZU;obtain⟨z,e1,e2⟩:=?hB ZU;cases e2;exact e1
 have rdi:bs[i]?=?c di:=by rw[qa9]at edi;obtain⟨z,e1,e2⟩:=?hB edi;cases e2;exact e1
 have rdj:bs[j]?=?c dj:=by rw[qa9]at edj;obtain⟨z,e1,e2⟩:=?hB edj;cases e2;exact e1
 have D1r:D1≠r:=fun z=>by rw[z,hr1]at n1;cases n1
 have D1b:D1≠b:=fun z=>by rw[z,?cS]at n1;cases n1
 refine qw7 (fun σ' H'=>Es fun D2=>M9 (?tX a) (Vq r b H3 H') (?pU) (H3 D2=none) (H' b=H3 b) (?wR r ((?nS).set j (?k D2))) (?wR D2 (VI W fun k=>-(B / g)*s.1 i k+?cW*s.1 j k))) ?D ?_
 . refine⟨_,rfl,_,rfl,_,rfl,_,rfl,p,C,dx,fs,_,rfl,hp3,?V,?cF,l1,_,rfl,r,_,_,_,rfl,rfl,.of r3,Bp (by rw[qk2 hij];exact ZU),?_⟩;refine⟨-(B / g),?cW,ci,cj,W,s.1 i,s.1 j,rfl,qr qS mci lS rci,qr qS mcj hcj rcj,hW,?v5 lz lu,fun D2 H4 Op s4 h4=>?_⟩;have nD:D2≠r:=fun z=>by rw[z,r3]at Op;cases Op
   refine⟨_,rfl,p,C,dx,fs,_,rfl,(s4 _ _ hp3),?V,?cF,l1,_,rfl,r,_,_,j,rfl,rfl,s4 _ _ r3,J3 (by rw[qi3,qa4,xa.1];exact hj),?_⟩;refine ?u8 ⟨D2,rfl,(?e4 s4).l,?wG s4,Op,?_,Ab,by rw[?gP];exact h4⟩;have e3:H3 b=?u1 (bs.map ?cE):=by rw[b3];exact ?cS
   rw[?sL,s4 _ _ e3,e3]
 refine iT fun D2 H5 YN zO n2 b5 r5 d5=>?_;intro sq;have e5:H5 b=?u1 (bs.map ?cE):=by rw[b5,b3];exact ?cS
 have YO:=qS.trans YN;have EW:=YN _ _ pr pb hp3;have D2r:D2≠r:=fun z=>by rw[z,r3]at n2;cases n2
 have D2b:D2≠b:=fun z=>by rw[z,b3,?cS]at n2;cases n2
 refine⟨_,rfl,p,C,dx,fs,_,rfl,EW,?V,?cN,l2,_,rfl,b,_,_,_,rfl,rfl,.of e5,Bp edi,?_⟩;refine As (fun σ' H'=>?tW a/\H5=H') ?_ fun key=>?jA;ext dT;refine qw7 (fun σ' H'=>Es fun D3=>M9 (?tW a) (Vq r b H5 H') (Kp H5 H') (H5 D3=none) (H' r=H5 r) (?wR b (?nE)) (?wR D3 (VI n fun k=>?cW*s.2 i k+-?a9*s.2 j k))) ?D ?_
 . refine⟨_,rfl,_,rfl,_,rfl,_,rfl,_,rfl,p,C,dx,fs,_,rfl,EW,?V,?cN,l2,_,rfl,b,_,_,_,rfl,rfl,.of e5,Bp edj,?_⟩;refine⟨?cW,-?a9,di,dj,n,s.2 i,s.2 j,rfl,?vO YO,?vN YO,hn,?v3 lu (by rw[qc4];exact lz),fun D3 H6 AR s6 h6=>?_⟩;have nD:D3≠b:=fun z=>by rw[z,e5]at AR;cases AR
   refine⟨_,rfl,p,C,dx,fs,_,rfl,(s6 _ _ EW),?V,?cN,l2,_,rfl,b,_,_,i,rfl,rfl,s6 _ _ e5,J3 (by rw[qa4,xb.1];exact hi),?_⟩;exact ?u8 ⟨D3,rfl,(?e4 s6).r,?wG s6,AR,by rw[Aj rb,s6 _ _ r5,r5],Ab,by rw[?gP];exact h6⟩
 refine iT fun D3 H7 fr7 kp7 n3 r7 b7 d7=>?_;intro sq;have yO:=YO.trans fr7;have hp7:=fr7 _ _ pr pb EW;have D3r:D3≠r:=fun z=>by rw[z,r5]at n3;cases n3
 have D3b:D3≠b:=fun z=>by rw[z,e5]at n3;cases n3
 refine qw7 (fun σ' H'=>Es fun D4=>M9 (?tW a) (Vq r b H7 H') (Kp H7 H') (H7 D4=none) (H' r=H7 r) (?wR b ((?nE).set j (?k D4))) (?wR D4 (VI n fun k=>-c*s.2 i k+a*s.2 j k))) ?D ?_
 . refine⟨_,rfl,_,rfl,_,rfl,_,rfl,_,rfl,p,C,dx,fs,_,rfl,hp7,?V,?cN,l2,_,rfl,b,_,_,_,rfl,rfl,.of b7,Bp (by rw[qk2 hij];exact edj),?_⟩;refine⟨-c,a,di,dj,n,s.2 i,s.2 j,rfl,?vO yO,?vN yO,hn,?v3 (by rw[qc4];exact lc) la,fun D4 H8 DI s8 h8=>?_⟩;have nD:D4≠b:=fun z=>by rw[z,b7]at DI;cases DI
   refine⟨_,rfl,p,C,dx,fs,_,rfl,(s8 _ _ hp7),?V,?cN,l2,_,rfl,b,_,_,j,rfl,rfl,s8 _ _ b7,J3 (by rw[qi3,qa4,xb.1];exact hj),?_⟩;refine ?u8 ⟨D4,rfl,(?e4 s8).r,?wG s8,DI,?_,Ab,by rw[?gP];exact h8⟩;have e7:=r7.trans r5;rw[Aj rb,s8 _ _ e7,e7]
 refine iT fun D4 H9 fr9 kp9 n4 r9 b9 d9=>?_;intro sq;have lU:=yO.trans fr9;have D4r:D4≠r:=fun z=>by rw[z,r7,r5]at n4;cases n4
 have D4b:D4≠b:=fun z=>by rw[z,b7]at n4;cases n4
 have k19:Kp H1 H9:=((kp3.trans zO).trans kp7).trans kp9;have u1:?vC D1:=?k6 n1
 have bH:∀{G:Hp}{D:Addr},Kp H G->G D=none->?eL:=fun kp e=>by
  cases z:H _ with
  | none=>rfl
  | some o=>exact absurd e (kp _ (by rw[z];exact fun q=>by cases q))
 have k01:Kp H H1:=?c0 s1;have u2:?o2:=bH (?gO kp3) n2;have u3:?vC D3:=bH ((?gO kp3).trans zO) n3;have u4:?vC D4:=bH (((?gO kp3).trans zO).trans kp7) n4;ext tC
 have hL9:Dl K H9 L ?q7:=by
  rcases hL with h | h
  . exact ?p (by
     have hLr:L≠r:=fun z=>by rw[z]at h;rcases h with h|⟨_,h⟩<;>rw[hr1]at h<;>cases h
     have hLb:L≠b:=fun z=>by rw[z]at h;rcases h with h|⟨_,h⟩<;>rw[?cS]at h<;>cases h
     rcases h with h|⟨q,h⟩
     . exact ?p (?qC)
     . exact ?o ⟨q,?qC⟩)
  . exact ?o h
 refine⟨_,rfl,k L g a c H9 ((?e4 s1).trans lU) ?s8 hL9 sh ⟨⟨dx,fs,lU _ _ pr pb hp1,l1,l2,l3,l4,l5⟩,⟨_,xa.two (D1:=D1) (D2:=D2) hi hj hij ?_ (fun a ha=>kr lU ha) ?_ ?_ ?_,?c3⟩,⟨_,xb.two hi hj hij b9 (fun a ha=>kb lU ha) ?_ ?_ ?_,?c3⟩,rb,x.nr,x.nb,fun a ha z=>x.nn a ha (bH ?s8 z)⟩⟩
 . rw[r9,r7,r5]
 . show ?wL D1 i;rw[Lat.blend_row_p hij];exact(fr9 _ _ D1r D1b (fr7 _ _ D1r D1b (YN _ _ D1r D1b d3)))
 . show ?wL D2 j;rw[Lat.blend_row_q];exact(fr9 _ _ D2r D2b (fr7 _ _ D2r D2b d5))
 . ext tE
 . rcases jG ha with ha | rfl | rfl
   . exact na a ha
   . exact⟨D1r,D1b,nN _ u1⟩
   . exact⟨D2r,D2b,nN _ u2⟩
 . show H9 D3=?u1 (?wQ i);rw[Lat.blend_row_p hij];exact fr9 _ _ D3r D3b d7
 . show H9 D4=?u1 (?wQ j);rw[Lat.blend_row_q];exact d9
 . ext tE
 . rcases jG ha with ha | rfl | rfl
   . exact nb a ha
   . exact⟨D3r,D3b,nN _ u3⟩
   . exact⟨D4r,D4b,nN _ u4⟩
noncomputable abbrev Jl:Stmt:=Ex ?mA 0
theorem Ug:?q ?e2 ?e2 (Au Jl):=Bh
theorem Uu[?u](F:Er K ?l2 "Stairs.__init__" Jl f fd)[?t](Zf:zF P w K mg ?e Ag ?l2 ?e2 1 (?uO Mg)):?wW ?e2 dS:=by
 refine ?uE Ug;obtain⟨p,dx,r,b,rfl,hp,k⟩:=h
 refine⟨_,(Af (Bx (SE Zf hr ?f ?k3 (Aa ?g (Aa ?i ?bC))))
  (Ai (?x1 ?cK))),?_⟩
 ext B
 refine⟨_,rfl,_,rfl,_,rfl,p,dx,Ad,r,b,rfl,?o rfl,hp,fun H1 fs hfs hH1=>?_⟩;have hp1:H1 p=?c (?Q Ad dx fs):=by rw[hH1];exact Ab
 have s1:?b4 p H H1:=by rw[hH1];exact ?cD ?eD
 have hl:fs.length<=2:=by rw[hfs];exact ?qZ
 refine⟨qa8 _,fun D hD=>?_⟩;have ZT:p≠D:=Ao hp1 hD;refine⟨_,rfl,p,Ad,dx,fs,rfl,by rw[Aj ZT];exact hp1,T.cl_Stairs,T.na_Stairs_starts,O9m,?_⟩;refine k D _ _ ?_ (by rw[hfs]) (SameX.upd (s1.trans (SameX.of (Same.new hD)))) (by rw[Aj ZT.symm];exact Ab) Ab;cases z:H D with
 | none=>rfl
 | some o=>rw[s1 _ _ ZT.symm z]at hD;cases hD
noncomputable abbrev Nk:Stmt:=top 76
theorem Qy:?q [?bL,?h5,?oG,?gJ] ?kE (Au Nk):=Bh
theorem j4[?u](F:Er K ?iE ?iE Nk f fd)[?t][?tB](Zi:Has P w K mg ?e ?kD ?gE 1 ?jH):?tR ?kE V0:=by
 refine ?uE Qy;obtain⟨a,b,xs,k,ms,rfl,hL,hb,hok,kq⟩:=h;ext bF
 refine⟨_,(Af (?wZ Eh (D6 (Bc We ?bJ Bz (?tT ?n (Gh (v:=.ty "dict") rfl ?kL Du rfl)))))
  (Af (Rw (B8 qb6 rfl (Xb ?n) (?uY Qy.nd) (Af (?wZ ?Y (Ml (?vH ?fU) (?xJ (?tZ Pc ?v) (Bf Ag1 ?v ?c2 ?m))))
  (Ai (?wZ ?Y (Ml (Bf Iy (?wC Zi (?xB ?eY)) ?i ?m) (?xJ (?vH (?xB (?wT ?n ?v))) (?tZ Et (?wT ?n ?v)))))))))
  ?F)),?_⟩
 ext B
 refine⟨_,rfl,b,?aE,rfl,?p hb,_,rfl,?_⟩;ext bZ;refine ?u3 [?z,?b0,?aU,none];ext dT;refine ?u0 (fun σ' H'=>Es fun o3=>σ'=?qH/\?hH)
 . refine ?w1 b hb;refine ?oE;have eX:nd ms:=?g7;have hLF:LT K (?mW) (?dY) xs:=Rep.x (?mY) hb hL;have ZR:upd H b ?cM b=?jT:=Ab;have hFk:∀c q,c≠b->H c=?b7->upd H b ?cM c=?b7:=fun c q n e=>?jO
   generalize ?mW=F0 at hLF ZR hFk ⊢
   let Be1:?bR:=?vM ?qH
   refine Tl (d:=b) (o:=o) (kvs:=?aE) Be1 ?pS (fun i σ G _ ?pT=>by rw[←e];exact ZR) ?_ ?_
   . rintro i kk x σ G hx C3
     ext K
     revert σ;ext hV;ext f9;obtain⟨⟨h0,h1⟩,hl,hz⟩:=hok.part q ?f6;ext tH;have dg:DGet F0 b (?f7) (?c (?aQ)):=?uQ ZR;refine⟨_,rfl,?f7,?f7,rfl,rfl,_,rfl,?_⟩;ext lX;ext X;ext bD;obtain⟨us,mR,V7⟩:=LT.len hLF;refine(?v2 us mR);rw[V7];ext bD;obtain⟨us2,v2,A36,YG,tv2⟩:=?jR hLF h0 h1;refine⟨_,rfl,_,rfl,a,us2,_,_,rfl,rfl,A36,YG,v2,?pA,rfl,?o tv2,_,rfl,rfl,_,rfl,?_⟩;rw[show(?pA).length=?kM from ?jM];refine ?v6 (by rw[hl];simp);refine⟨_,rfl,_,rfl,b,?aQ,rfl,dg,?aQ,?aQ,rfl,rfl,_,rfl,?_⟩;ext lX;refine(?wS b dg);refine ?v6 (by simpa using hz);exact⟨_,rfl,rfl⟩
   . ext bE;ext hV;refine⟨ZR,?u8 ⟨o3,rfl,?lB⟩⟩;by_cases z:c=b
     . ext m2
     . rw[?bU];exact hFk c q z e
 refine Ab8 fun o3 G s=>?_;intro sq;exact kq G s
noncomputable abbrev Lw:Stmt:=top 78
theorem Em:?q [?bL,?eT,?d5,?gJ,"_law_sign",?jJ] ?kV (Au Lw):=Bh
theorem Yq[?u](F:Er K ?l8 ?l8 Lw f fd)[?t](Gp:Has P w K mg ?e ?k1 [?d5] 1 (Vz K)):?tR ?kV Sq:=by
 refine ?uE Em;obtain⟨a,b,xs,ms,rfl,hL,hb,hm,h4,hch,kq⟩:=h;ext bF
 refine⟨_,(Af (?vA ?eP Ix)
  (Af (Rw (B8 qb6 rfl ?q2 (?uY ?eP) (Af (?uT ?eP (?wT ?i ?v))
  (Ai (B8 qb6 rfl (?u7 Qc ?eY) (?wY 5 ?eP) (Af (Xa ?aV ?n ?aO (Bq Ds (S7 ?aV ?n ?aO Ak ?mM) ?A) ?f)
  (Ai (?uT ?eP (Bq Jn Ak ?A)))))))))
  (?x0 (?wC Gp ?bC)))),?_⟩
 ext B
 refine ?u0 (fun σ' H'=>Es fun ?q4=>B6 (σ'=[?z,?aU,?G,none,none,none]) (?eL) ?cQ (H' D=?c (.dK (cK []))))
 . exact fun D hD=>?u8 ⟨D,rfl,hD,?b2,Ab⟩
 refine Vs ?oT;have DH:b≠D:=?mN;have hb1:=?n0;have ZS:=?lC;refine ?u0 (fun σ' H'=>Qt fun o1 o2 o3=>E4 (σ'=?pZ) ?cQ (H' D=?c (.dK (cK (?sN)))))
 . refine ?w1 b hb1;have eX:nd ms:=?g7;refine ?oE
   refine Tl (d:=b) (o:=o) (kvs:=?aE) (fun i σ G=>Qt fun o1 o2 o3=>B6 (σ=?pZ) (G b=?jT) (G D=?u6 ?dN) ((∀c q,c≠b->c≠D->?qG->G c=?b7)))
    ⟨?l,?l,?l,rfl,Ab,?kK,fun c q n1 n2 e=>?sF⟩ (?uN _) ?_ ?_
   . rintro i kk x σ G hx C3;ext fC;intro o1 o2 o3 jN Ev tO Ei;obtain⟨q,hq2,rfl,rfl⟩:=Oa hx;have hlt:?o4:=(?eA hq2).1;have hqd:?i9=q:=by rw[qa7,hq2];rfl
     have hat:?vT ms:=F7 eX ?oO;have hin:=hch q ?oO
     have HH:LT K G (?dY) xs:=by
      have e1:M4 b H1 (upd H1 b ?cM):=?mY
      have l1:=Rep.x e1 hb1 ZS;have d1:(upd H1 b ?cM) D=?u6 []:=?kK
      have e2:M4 D (upd H1 b ?cM) G:=fun c r n e=>by
       by_cases z:c=b
       . subst z;rw[Ab]at e;cases e;exact jN
       . rw[?bU]at e;exact tO c r z n e
      exact Rep.x (m:=cK []) e2 d1 l1
     refine⟨_,rfl,_,rfl,b,?aQ,rfl,?uQ jN,?_⟩;obtain⟨us,v,mR,YG,tv⟩:=?jR HH hin.1 hin.2;obtain⟨av,rfl,sqv⟩:=TI.sq tv
     have hfl:?kM<=4:=by
      rcases I0 (l:=xs) (i:=?cO) (d:=[]) with z | z
      . exact h4 _ z
      . rw[z];exact ?aA
     have zl:=BY h4 ms i
     have step:dH xs ms ?aC=dM ?dN (?hK) q.2 ?kM:=by
      show dM ?dN (?pE) (?i9).2 (?pE).length=_;rw[hqd]
     rw[step];obtain⟨fs,hfs⟩:∃fs,fs=?hK:=?jV
     rw[←hfs]at sqv hfl ⊢;refine⟨_,rfl,_,rfl,a,us,_,_,rfl,rfl,mR,YG,av,rfl,⟨_,sqv⟩,?_⟩
     refine cI (K:=K) (a:=av) (xs:=?pY) (fun m σ G2=>Es fun o3=>E4 (σ=[?z,?aU,?G,?oX,?wE (?rE),o3]) (G2 D=?u6 (dM ?dN fs q.2 m)) (M4 D G G2))
      ⟨o3,rfl,Ev,fun c r n e=>e⟩ (fun m σ G2 _ hz=>by obtain⟨_,_,_,st⟩:=hz;exact Dl.x st Ev sqv) ?_ ?_
     . rintro m y σ G2 hy C3;revert σ;refine vH ?_;intro o3 Op st Ei;have hm2:m<fs.length:=by have:=?i8;ext H
       have hyv:y=?w8 m:=by
        rw[qa9,qa0 hm2]at hy;rw[qa7,qa0 hm2];simpa using hy.symm
       subst hyv;have lz:=bZ ?dN fs q.2 m;refine⟨_,rfl,D,rfl,?p ⟨_,?p Op⟩,_,rfl,_,Xh (?p Op),_,rfl,Bu (dM ?dN fs q.2 m) (fs.getD m 0),_,Xk _ _,rfl,_,rfl,_,rfl,D,_,rfl,Xg Op O9m,?_⟩;refine⟨_,rfl,_,_,rfl,rfl,?c (?w8 m),?_,Ab,fun c r n e=>by rw[Aj n];exact st c r n e⟩;have:e9 q.2 (m+1)=0-?rE:=by unfold e9;split<;>split<;>omega
       rw[this];rfl
     . rintro σ G2 C3;revert σ;refine vH ?_;intro o3 Op st Ei;rw[qa4]at Op;exact⟨_,_,_,rfl,st _ _ DH jN,Op,fun c r n1 n2 e=>st c r n2 (tO c r n1 n2 e)⟩
   . ext bE;refine aM ?_;intro o1 o2 o3 jN Ev tO Ei;rw[Mb]at Ev;refine⟨jN,?u8 ⟨o1,o2,o3,rfl,?lB,by rw[?l6];exact Ev⟩⟩;by_cases z:c=b
     . ext m2
     . rw[?bU];exact tO c q z ?pI (s1 _ _ e)
 refine UM fun o1 o2 o3 G sG Ev=>?_;have lz:=BY h4 ms ?r6;exact⟨_,rfl,D,?sN,rfl,Ev,O9m,fun D2 H2 n2 s2 e2=>kq D2 H2 (sG.free n2) (sG.trans s2) e2⟩
noncomputable abbrev Km:Stmt:=top 85
theorem Ca:?q [?f1,?cH,?bO,"_law_layer","_law_rows",?jK,"_law_below","_law_one",?jJ,?nU] ?jC (Au Km):=Bh
theorem Ws[?u](F:Er K ?iQ ?iQ Km f fd)[?t][?sZ]:?tR ?jC Oe:=by
 refine ?uE Ca;obtain⟨l,us,v,ws,w,fam,rfl,hl,hr0,hv,hw,hlen,k⟩:=h;ext bF
 have s0w:∀u∈[w],?nT:=fun u hu=>by
  have e:u=w:=by simpa using hu
  subst e;exact hw
 refine⟨_,(Af (?u9 ?aS (Hh ?W))
  (Af (?uT ?aS ?cK)
  (Af (B8 qb6 rfl (?uX (?xB Ak)) (?w0 5) (Af (?uT ?aS (Bq (?x9 U2) ?v ?A))
  (Af (Av (i:=6) ?aS ?cK)
  (Af (?xC ?v (B8 qb6 rfl (?u7 Cd (?wC Gx (Aa ?d4 ?bC))) (?w0 8) (Ai (B9 (?Y (Up (Bf ?gH ?cL ?g rfl) (P9 (Bf ?gH ?cL ?bW rfl)))) (Ai (?u2 ?bW ?cL)) Bo))))
  (Ai (?u9 ?aS ?bW))))))
  (Af (Av (i:=9) ?aS (Cj (?x9 F8) ?f ?eR Ez ?Z))
  (Af (?xC ?A (?x2 (Bf ?gH ?d4 ?cY rfl) (?u2 ?cY ?d4)))
  (?x0 ?cY)))))),?_⟩
 ext B
 refine⟨_,rfl,?bB,fun L0 hL0=>?_⟩;have s1:?h H (?vS L0 [v]):=?y hL0;refine⟨?aA,fun R0 hR0=>?_⟩;have s2:?h (?vS L0 [v]) (upd (?vS L0 [v]) R0 ?d8):=?y hR0
 refine⟨_,rfl,?c9,?c9,Ck (lo:=0) (n:=(4:Int).toNat)
  (fun i σ H2=>iP fun(L R:Addr) (lu ru:?cX) (?h8 rows:At) (o5 o6 o7 o8 o9:?b6)=>KG (σ=[rS l,?a0,?S,?aH,rS R,o5,o6,o7,o8,o9]) ?bH (H2 L=?u1 lu) (?a1 K H2 lu (layer.map tI)) (H2 R=?u1 ru) (?a1 K H2 ru (rows.map tI)) ((∀u∈layer,?nT)) (Nv ws fam (4-i) ?h8 rows=?qY) (layer.length<=4 ^ i) (rows.length<=1000*i))
  ⟨L0,R0,[v],[],[w],[],?l,?l,?l,?l,?l,rfl,?c5,?qU,Reps.one (?hI (?c5) hv),Ab,rfl,s0w,rfl,?dD,?dD⟩ ?_ ?_⟩
 . ext dU
   ext K
   ext sT;have hi4:i<4:=?sO
   have h4i:4 ^ i<=64:=by
    have:i=0\/i=1\/i=2\/i=3:=O9m
    rcases this with rfl | rfl | rfl | rfl<;>decide
   have lul:lu.length=layer.length:=by have:=rL.length;ext H
   ext sX
   refine⟨_,rfl,_,rfl,L,R,_,_,rfl,rfl,.of hL,.of hR,B7 O9m,fun R1 hR1=>?_⟩;have sa:?h H2 ?bK:=?y hR1;have A75:?bK R1=?u1 (lu++ru):=Ab
   have rRa:?a1 K ?bK (lu++ru) (?vK ?sM):=by
    rw[qb5];exact(?qI).append (?U sa rR)
   have hLa:=sa _ _ hL;have rLa:?a1 K ?bK lu (layer.map tI):=?qI;have sHa:?h H ?bK:=?e5 sa;refine⟨?aA,fun B hB=>?_⟩;have sb:?h ?bK (upd ?bK B ?d8):=?y hB;have hBH:?vC B:=sHa.free hB
   refine⟨_,rfl,L,rfl,⟨_,?tY sb hLa⟩,?cG (K:=K) (a:=L) (xs:=lu)
    (fun j σ H3=>Qt fun ?nJ (o7 o8:?b6)=>B6 (σ=[rS l,?a0,?S,?aH,rS R1,?wE (0+i),rS B,o7,o8,o9]) (?h ?bK H3) (H3 B=?u1 bu) (?a1 K H3 bu (?vK ?o3)))
    ⟨[],_,_,rfl,sb,Ab,rfl⟩ (fun j σ H3 _ hz=>by obtain⟨_,_,_,_,s3,_⟩:=hz;exact ?tY s3 hLa) ?_ ?_⟩
   . rintro j x σ H3 hx C3
     ext K
     ext fC;intro bu o7 o8 s3 zU rB Ei;have hj:j<lu.length:=?dP;have hjl:j<layer.length:=O9m
     have hjx:(layer.map tI)[j]?=?c (tI ?eB):=?s2
     obtain⟨x',hx',tx⟩:=rLa.get hjx;rw[hx]at hx';cases hx';have hwj:Fd fam ?eB:=zS _ (qe4 _);refine⟨_,rfl,_,rfl,x,?eB,fam,rfl,?m9,hwj,fun p fu H4 hp s4 Qd r4=>?_⟩;have fl:=Kb hwj;have ful:fu.length=?kF:=by have:=r4.length;ext H
     have hpB:p≠B:=fun z=>by rw[z,zU]at hp;cases hp
     have hB4:=s4 _ _ zU
     refine⟨p,rfl,(?x7 Qd),?cG (K:=K) (a:=p) (xs:=fu)
      (fun m σ H5=>Ij fun ?nJ (o8:?b6)=>Dp (σ=[rS l,?a0,?S,?aH,rS R1,?wE (0+i),rS B,?c x,o8,o9]) (?b4 B H4 H5) (H5 B=?u1 bu) (?a1 K H5 bu (?vK ?c8)) (?rB<=1000))
      ⟨bu,_,rfl,SameX.refl _ _,hB4,(by simpa[C0]using ?U s4 rB),?_⟩ (fun m σ H5 _ hz=>by obtain⟨_,_,_,s5,_⟩:=hz;exact .of (s5 _ _ hpB Qd)) ?_ ?_⟩
     . have:=?mR;simp only[List.take_zero,C0,ql5,qc9]at this ⊢;omega
     . rintro m y σ H5 hy C3
       ext K
       revert σ;refine VF ?_;intro zW o8' s5 vL rO A67 Ei;have hm:?nW:=?i8;have hmf:m<?kF:=O9m
       have hmy:(?vK ?f8)[m]?=?c (tI ?qV):=?pR
       obtain⟨y',hy',ty⟩:=r4.get hmy;rw[hy]at hy';cases hy';generalize hf:?qV=fc at ty;have ty5:TI K H5 y fc:=TI.t (s5.t hB4) ty
       have hl5:H5 l=?c ?oL:=by
        refine s5 l _ (?l4) (s4 _ _ (s3 _ _ (sHa _ _ hl)));rw[z]at hl;rw[hl]at hBH;cases hBH
       have rl5:Rep K H5 (?k l) (?j (?d1)):=⟨l,us,rfl,.of hl5,Reps.t (s5.t hB4) (Za ws) (?U ((sHa.trans s3).trans s4) hr0)⟩
       have rb5:Rep K H5 (?k B) (?j (?vK ?c8)):=⟨B,zW,rfl,.of vL,rO⟩
       have e0:?r7=(if fc ∉ ws/\fc ∉ ?c8 then ?c8++[fc] else ?c8):=by
        rw[qf7,?iD,hf];exact Wj _ _ _ _
       have A66:zW.length=?rB:=by have:=rO.length;ext H
       have OZ:(?r7).length<=1000:=by
        have h1:=Se (ws:=ws) (?iF (m+1)) ?g8;have h2:=?mR;simp only[ql5,qc9]at h1 h2;have h3:?kF<=4:=by have:=fl.1;have:=fl.2;split at*<;> omega
        omega
       generalize hacc:?c8=acc at rO rb5 e0 A66 A67;refine⟨_,rfl,_,rfl,tI fc,?d1,ty5,?p rl5,(by have:=Pt ws;omega),_,rfl,?_⟩;by_cases h1:fc∈ws
       . ext tN;ext fB;refine ?qX;rw[e0,?T (by simp[h1])];exact rO
       . ext tO;refine(?uK ty5 rb5);by_cases h2:?rX
         . refine ?v6 (by rw[?aW,Sd];simp[h2]);refine ?qX;rw[e0,?T (by simp[h2])];exact rO
         . refine cC (by rw[?aW,Sd];simp[h2]) ?_;refine⟨_,rfl,?p ⟨rfl,_,.of vL⟩,_,rfl,B,_,_,rfl,rfl,vL,?aF,?_⟩;refine⟨_,_,rfl,s5.upd,Ab,?_,OZ⟩;rw[e0,?a3 ⟨h1,h2⟩];exact No vL rO ty5
     . rintro σ H5 C3;revert σ;refine VF ?_;intro zW o8' s5 vL rO _ Ei;refine⟨zW,_,_,rfl,?_,vL,?_⟩
       . exact s5.same (?iO) hB
       . rw[ful,qd2]at rO;rw[qf7,?lE];have e1:?wX (layer.take j++(?c ?eB).toList)=C0 ws ?g8 (?f8):=Z4 _ _ _ _ _;rw[e1];exact rO
   . rintro σ H3 C3;ext fC;intro bu o7 o8 s3 zU rB Ei;rw[lul,qd2]at rB;ext fE;refine⟨B,R1,bu,lu++ru,?wX ?h8,?sM,_,_,_,_,_,rfl,sHa.trans s3,zU,rB,s3 _ _ A75,?U s3 rRa,?_,?_,?_,?_⟩
     . intro u hu;rcases Qi _ _ hu with z|⟨t,ht,z⟩
       . exact ?s1
       . exact(N7 (zS t ht) z).1
     . rw[←hlay,show 4-i=(4-?aC)+1 by omega];rfl
     . have:=Mz (ws:=ws) (fam:=fam) ?h8 [] zS;simp only[ql5]at this;rw[qg6];omega
     . rw[qc3];omega
 . rintro σ H2 C3;ext sT;have Lh:rows=?qY:=hlay;have A45:=HB (ws:=ws) hw;rw[←Lh]at A45;ext sX
   refine⟨_,rfl,l,_,rfl,?p (?tY sH hl),fun M hM=>?_⟩;have sm:?vG M ?oL:=?y hM;have hMH:?q1:=sH.free hM;have usl:us.length=ws.length:=by have:=hr0.length;ext H
   refine⟨_,rfl,R,rfl,⟨_,?tY sm hR⟩,?cG (K:=K) (a:=R) (xs:=ru)
    (fun j σ H3=>Ij fun(mu:?cX) (o7:?b6)=>B6 (σ=[rS l,?a0,?S,?aH,rS R,o5,o6,o7,o8,rS M]) (?h H2 H3) (H3 M=?u1 mu) (?a1 K H3 mu (?vK ?d0)))
    ⟨us,_,rfl,sm,Ab,(by simpa[E3]using ?U (?e5 sm) hr0)⟩ (fun j σ H3 _ hz=>by obtain⟨_,_,_,s3,_⟩:=hz;exact ?tY s3 hR) ?_ ?_⟩
   . rintro j x σ H3 hx C3
     ext K
     ext dS;intro mu o7' s3 YJ rM Ei;have hj:j<ru.length:=?dP;have hjl:j<rows.length:=O9m
     have hjx:(rows.map tI)[j]?=?c (tI rows[j]):=?s2
     obtain⟨x',hx',tx⟩:=rR.get hjx;rw[hx]at hx';cases hx';generalize hf:rows[j]=fc at tx;have tx3:TI K H3 x fc:=?m9
     have e0:E3 ws (?j1 (j+1))=(if fc∈?d0 then ?d0 else ?d0++[fc]):=by
      rw[qf7,?lE,hf];exact Wk _ _ _
     have hal:=b6 (?j1 j) ws;rw[qc9]at hal;have mul:mu.length=(?d0).length:=?mZ
     generalize hacc:?d0=acc at rM e0 hal mul;have rm3:Rep K H3 (?k M) (?j (?j7)):=⟨M,mu,rfl,.of YJ,rM⟩
     refine(?uK tx3 rm3);by_cases h1:?rX
     . ext tN;refine⟨mu,_,rfl,s3,YJ,?_⟩;rw[e0,?a3 h1];exact rM
     . ext tO;refine⟨_,rfl,?p ⟨rfl,_,.of YJ⟩,_,rfl,M,_,_,rfl,rfl,YJ,?aF,?_⟩;refine⟨_,_,rfl,s3.turn hM,Ab,?_⟩;rw[e0,?T h1];exact No YJ rM tx3
   . rintro σ H3 C3;ext dS;intro mu o7' s3 YJ rM Ei;rw[rul,qd2,Lh]at rM;exact⟨_,rfl,k M mu H3 hMH (?e5 s3) YJ rM⟩
noncomputable abbrev Fv:Stmt:=top 9
theorem Oy:?q ?eN ?eN (Au Fv):=Bh
theorem Pd[?u](F:Er K ?kT ?kT Fv f fd)[?t][?t3][?lZ]:?tS ?eN (Fg K):=by
 refine ?uE Oy;obtain⟨a,x,d,l,xs,rfl,hL,hx,k⟩:=h;obtain⟨us,hq,V7⟩:=LT.len hL;refine(?wA (Ly (An D8 hr (?tT ?i ?c2)) (Nq (Le Et (An Fn hr (?xB (?vE ?g))) ?n ?m))));refine⟨_,rfl,_,rfl,a,us,rfl,?gL,x,d,_,rfl,hx,_,rfl,?_⟩;rw[V7];ext hX
 . obtain⟨i,rfl⟩:∃i,d=?aM:=by cases d<;>first | exact ?jV | (exfalso;simp[belowD]at e)
   cases (show x=?aM from hx);have e':?rD:=e;have h0:0<=i/\i<(xs.length:Int):=by simpa using e'
   obtain⟨us',v,hq',hv,tv⟩:=?jR hL h0.1 h0.2;refine⟨_,rfl,_,rfl,a,us',i,v,rfl,rfl,hq',hv,v,_,rfl,?o tv,_,rfl,rfl,?_⟩
   have e2:Dg xs (?aM) l=?I (?uW Fj=l):=by
    show ?vW _;rw[e'];simp[Fj]
   rw[e2]at k
   have e3:?I (?J (?uW Fj)=?J l)=?I (?uW Fj=l):=by
    by_cases z:?uW Fj=l
    . simp[z]
    . simp[z]
   rw[e3];exact k
 . have e2:Dg xs d l=false:=by
    cases d with
    | int i =>
      have e':¬?rD:=e;show ?vW false;rw[Bool.eq_false_iff.mpr e'];rfl
    | _=>rfl
   ext dV
noncomputable abbrev Lp:Stmt:=top 32
theorem X7:?q ?kB ?kB (Au Lp):=Bh
theorem Ym[?u](F:Er K ?mL ?mL Lp f fd)[?t][?t3]:?tS ?kB (Jg K):=by
 refine ?uE X7;obtain⟨i,b,rfl,h0,h1,k⟩:=h;refine⟨_,(?xH (Eh (D6 (?wC D8 ?cV))) S5),?_⟩;refine⟨_,rfl,_,rfl,?aM,?aM,b,rfl,rfl,_,rfl,?_⟩;rw[show ?l1=true from belowD_of h0 h1];ext fB;exact k
noncomputable abbrev Ro:Stmt:=top 36
theorem DX:?q ?i7 ?i7 (Au Ro):=Bh
theorem EH[?u](F:Er K ?p5 ?p5 Ro f fd)[?t](Go:Has P w K mg ?e ?lN ?gQ 2 (Iw K)):?tS ?i7 (Vw K):=by
 refine ?uE DX;obtain⟨v,h,w,f,rfl,hv,hh,hw,k⟩:=h;obtain⟨Vt,fK⟩:=T.x_MOST_ROWS;obtain⟨a,us,rfl,hq,V7,N2⟩:=?g9
 refine⟨_,(Af (?wZ ?Y (?xJ (Eh (D6 (?wB ?eO ?g))) (Bf OA ?c2 (Ld (v:=?d 40) ?f fK ?jV) ?m)))
  (Ai (?xF Bb (Cc (N':=[?dC,?aZ]) (cap:=[none,?c 1]) ?f ?N ?eV (?tQ (?wY 0 OG)) ?aB (?tQ (?wC Go ?cV)))))),?_⟩
 ext B
 refine⟨_,rfl,?dY,?eC,dT h w f,rfl,?o (?o (?o (?iC))),hv,_,rfl,?_⟩;refine ?v6 (by simp[jK,dT]);refine⟨_,rfl,a,_,rfl,?gL,_,_,rfl,rfl,_,rfl,?_⟩;ext bD;ext hU
 let Be0:?P:=?wI (?uD [o,iS w])
 refine Cp (K:=K) (a:=a) (xs:=us) Be0
  ?eX (?uH ?fF) ?_ ?_
 . ext hT;ext m5;obtain⟨hi,b,rfl,hb⟩:=?nN;refine⟨_,rfl,_,rfl,b,w,f i,rfl,?bV hb,hw,fun H2 s2=>?_⟩;refine⟨?s7,?dE ?dW,(?c5).turn hD,Ab,?_,_,rfl⟩;rw[qu0,qb5];rfl
 . ext m3;refine⟨D,?sQ,rfl,?kO,?_⟩;rw[?w6 ?sQ];exact ?eS
noncomputable abbrev Ui:Stmt:=top 38
theorem gH:?q ?j5 ?j5 (Au Ui):=Bh
theorem gQ[?u](F:Er K ?n4 ?n4 Ui f fd)[?t](Pq:Has P w K mg ?e ?lF ?kI 2 (Qw K)):?tS ?j5 (Re K):=by
 refine ?uE gH;obtain⟨u,v,h,d,w,f,g,rfl,hu,hv,hh,hd,hw,hm,k⟩:=h;obtain⟨a,us,rfl,hq,V7,N2⟩:=Hk hu;refine(?wA (Cc (N':=[?dC,?cU,?aZ]) (cap:=[none,?c 1,?c 2]) ?f ?N ?eV (?tQ (?wY 0 Ag9)) ?aB (?tQ (An Pq hr (Aa ?g (Aa ?i ?bC))))));ext hU
 let Bd9:?P:=fun i ys τ H1=>Es fun as=>B6 (as.length=i) (ys=?aT) (Rows H H1 D as w (fun i j=>Am (fun k=>f i k*g k j) d)) (?uD [o,?a0,iS w])
 refine Cp (K:=K) (a:=a) (xs:=us) Bd9
  ?i5 (fun i ys τ H1 _ hz=>by obtain⟨as,_,_,R,_⟩:=hz;exact ?nH hq) ?_ ?_
 . rintro i x ys τ H1 hx ⟨as,hal,rfl,R,o,rfl⟩;obtain⟨hi,b,rfl,hb⟩:=?nN;refine⟨_,rfl,_,rfl,_,rfl,b,v,d,w,f i,g,rfl,?nH hb,?nI,hd,hw,fun k j hk hj=>hm i k j hi hk hj,?iB⟩;ext lS
 . ext lU
noncomputable abbrev Rs:Stmt:=top 51
theorem dZ:?q ?jP ?jP (Au Rs):=Bh
theorem EK[?u](F:Er K ?pQ ?pQ Rs f fd)[?t](Bt:Has P w K mg ?e ?iN ?h4 2 (Dq K)):?tS ?jP (aD K):=by
 refine ?uE dZ;obtain⟨a,b,xs,k,ns,rfl,hL,Jv,hb,hnl,kq⟩:=h;refine⟨_,(Ai (Bb (Cj (Z1 ?f) ?f ?kL Du (?xB (Cc (N':=[?dG,?a8]) (cap:=[none,none]) ?f ?N (bP (K:=K) ?f T.n_zip (Aa (?wC Bt ?cV) ?bC)) (?tQ (?w9 (?wY 0 OI) (?wY 1 OI))) (?tQ (W9 (Bf Iy ?i Ak ?m))) (?tQ (D7 ?cV))))))),?_⟩;refine⟨_,rfl,_,rfl,a,k,xs,rfl,hL,Jv,fun P H1 hP s1 hP1=>?_⟩;have pl:(F5 xs k).length<=1000:=qa6 (F4 ..) Jv;have hnd:=J9 xs k;generalize jM:F5 xs k=sp at hP1 hnl pl hnd kq;have hb1:=?bV hb;have hzn:=FW hnl hnd;have hzl:(?gS).length=sp.length:=by rw[List.length_zip];omega
 refine⟨_,rfl,P,b,rfl,(?x7 hP1),⟨_,hb1⟩,?a7⟩
 refine FH (K:=K) (a:=P) (b:=b) (xs:=sp.map ?J) (ys:=?kX) (n:=sp.length) (by rw[qa4,qa4];omega) (fun i zs τ G=>B6 (?h H1 G) (G D=?k5) ((∃ts:?sC,zs=ts.map ?cE/\ts.length=?kC/\∀(j:Nat) t,ts[j]?=?c t->∃p:Int × Int,(Fk ((?gS).take i))[j]?=?c p/\G t=?c (?x [?gF,?d p.2])/\t≠D)) (?vU [o1,o2]))
  ⟨?b2,Ab,⟨[],rfl,rfl,fun j t z=>?s6⟩,?l,?l,rfl⟩ (fun i zs τ G _ hz=>by obtain⟨g,_⟩:=hz;exact⟨?tY g hP1,g.seq hb1⟩) ?_ ?_
 . rintro i x y zs τ G p hx hy ⟨g,Ev,⟨ts,rfl,JK,hts⟩,o1,o2,rfl⟩ hp;have hi:i<sp.length:=?hJ
   have hz:=fX hnl hi
   have hxv:x=?d (?rL):=by
    ext t9
   have hyv:y=?d (?mK):=by
    rw[qa9,qa0 (show ?lG by omega)]at hy;rw[qa7,qa0 (show ?lG by omega)];simpa using hy.symm
   subst hxv hyv;have ct:=aW hz;generalize ?rL=sv at hz ct;generalize ?mK=nv at hz ct;have gp:?h G (?jU):=?bX;have hp1:(?jU) p=?c (?v0 nv):=Ab;generalize ?jU=G1 at gp hp1;have ctl:?kC<=i:=qa6 (jI _) (by rw[qc9];omega);refine⟨p,_,rfl,.of hp1,rfl,_,_,rfl,_,_,rfl,rfl,?_⟩;ext a6;ext a5
   . have e:¬nv=0:=?C
     rw[?T e]at ct;refine⟨_,rfl,_,rfl,?bB,fun t ht=>?_⟩;have gt:=gp.trans (?y (o:=?v0 nv) ht);have ntD:t≠D:=(Ao (?fM) ht).symm;have hDt:=gt _ _ Ev;have htt:(?rV) t=?c (?v0 nv):=Ab;generalize ?rV=G2 at gt hDt htt;refine⟨hDt,?iW,(?dF gt).turn hD,Ab,⟨ts++[t],?dD,by rw[ct];simp[JK],fun j t' e2=>?_⟩,_,_,rfl⟩;rw[ct];rw[List.getElem?_append]at e2;split at e2
     . rename_i hj
       obtain⟨p',dJ,h2',h3'⟩:=hts j t' e2;exact⟨p',by rw[qd1 (by omega)];exact dJ,by rw[Aj h3'];exact gt _ _ h2',h3'⟩
     . rename_i hj
       have hj0:j-ts.length=0:=by
        cases hz:j-ts.length with
        | zero=>rfl
        | succ m=>rw[hz]at e2;simp at e2
       rw[hj0]at e2;have et:t=t':=by simpa using e2
       subst et;refine⟨(sv,nv),?_,?_,ntD⟩
       . rw[qd6 (by omega),show j-?kC=0 by omega];rfl
       . rw[Aj ntD];exact htt
   . have e:nv=0:=?C
     rw[?a3 e]at ct;rw[ct];exact⟨?iX,?fM,⟨ts,rfl,JK,fun j t z=>let ⟨p',a1,a2,a3⟩:=hts j t z;⟨p',a1,gp _ _ a2,a3⟩⟩,_,_,rfl⟩
 . rintro zs τ G ⟨g,Ev,⟨ts,rfl,JK,hts⟩,_⟩;rw[←hzl,qd2]at JK hts;refine⟨D,ts,cK (Fk (?gS)),rfl,Ev,(by rw[Mb];exact JK),fun i t e2=>?_,?i3⟩
   . obtain⟨p,dJ,h2',_⟩:=hts i t e2;refine⟨(?p p.1,?d p.2),?_,h2'⟩;unfold cK;rw[qa9,dJ];rfl
   . refine kq E _ ((?dI g).free hE) ((?dI g).trans (?y hE)) ?_;rw[Ab,Nr _ [] (by rw[qn5];exact Iz.mpr (Ah2 hzn)),qn5]
noncomputable abbrev Fm:Stmt:=Ex ?pO 1
theorem g8:?q ?gW ?gW (Au Fm):=Bh
theorem Qz[?u](F:Er K ?d9 "Lines.turn" Fm f fd)[?t](Ti:Has P w K mg ?e ?jQ ?l3 2 (X2 K))(Xf:Has P w K mg ?e "across" [?d9] 1 (AE K)):?tS ?gW (Kg K Ag Ad Ah):=by
 refine ?uE g8;obtain⟨p,u,C,r,b,sv,n,W,s,N,t,rfl,hC,x,hu,m1,m2,hn,hW,k⟩:=h;ext sU
 have hc:?q5:=by
  rcases hC with rfl | rfl
  . ext t7
  . ext t4
 refine⟨_,(Af (?x1 (?wC Ti (Aa ?a2 ?W)))
  (Ai (?x1 (?wC Ti (?tT ?a2 (An Xf hr ?W)))))),?_⟩
 ext B
 refine⟨_,rfl,p,C,dx,fs,_,rfl,hp,?V,?cF,l1,_,rfl,r,u,as,n,W,s.1,t,rfl,xa,hu,m1,hn,hW,fun D1 VP H1 Ec s1 x1 n1=>?_⟩;have hp1:=?oJ;refine⟨_,rfl,p,C,dx,fs,rfl,hp1,?V,?cF,O9m,?_⟩;have sx1:?b4 p H ?eU:=?cD (?fX s1);have Ad5:?b4 p H1 ?eU:=?fR
 have hu1:Rep K ?eU u (QT t):=by
  refine Rep.t ⟨fun b xs e=>?_,fun b o u e=>?_⟩ (by cases t<;>rfl) hu
  . ext tG
  . ext tG
 have hl1:?qS=fs.length:=Mm l1;have hp2:?eU p=?c (?Q C dx (?uU fs)):=Ab;have x2:=x1.x hp1 Ad5;have QW:=xb.x hp sx1
 have tU:?vX ?eU ?oY:=fun a e=>by
  by_cases hap:a=p
  . rw[hap,Ab]at e;cases e
  . rw[Aj hap]at e;exact ?k6 e
 generalize zT:?pB=H2 at sx1 Ad5 hu1 hp2 x2 QW tU;refine⟨_,rfl,p,C,dx,_,_,rfl,hp2,?V,?cN,(by ext m4;exact l2),_,rfl,u,t,rfl,hu1,fun u2 H3 s3 hu3=>?_⟩;refine⟨b,u2,bs,n,n,s.2,tnA t,rfl,QW.same s3,hu3,m2,hn,hn,fun D2 bs2 H4 Op s4 x4 n4=>?_⟩;have mQ:=?iO;have Qd:=mQ _ _ hp2;refine⟨_,rfl,p,C,dx,_,rfl,Qd,?V,?cN,O9m,?_⟩;have hl2:(?M ?e8 (?cE D2) (?pJ)).length=?qS:=Mm (x:=?k b) (by ext m4;exact l2);have wN:?b4 p H4 (upd H4 p (?Q C dx (?M ?e8 (?k D2) (?uU fs)))):=?fR;have f2:?o2:=tU _ (s3.free Op);have dne:D1≠D2:=fun z=>?rP ?pD;ext tC;refine k D1 D2 _ (?cD (sx1.trans (?fX mQ))) Ec f2 ⟨⟨dx,_,Ab,?_,?_,?_,?kQ,O9m⟩,⟨VP,(x2.same mQ).x Qd wN,?c3⟩,⟨bs2,x4.x Qd wN,?c3⟩,dne,nN _ Ec,nN _ f2,fun a ha z=>?_⟩
 . rw[Aq,?gG,Aq,?aW]
 . rw[Aq,?aW]
 . rw[Aq,?gG,Aq,?gG];exact l3
 . rw[Aq,?e1,Aq,?e1];exact l4 m hm
 . have h1:=(x2.same s3).there.2 a ha;obtain⟨h2,h3⟩:=n1 a ha;refine⟨h3,fun z=>h1 ?pD,?_⟩;rcases h2 with h2 | h2
   . exact(na a h2).2.2
   . exact nN a h2
 . obtain⟨h2,h3⟩:=n4 a ha;refine⟨?l4,h3,?_⟩
   . rcases h2 with h2 | h2
     . exact xb.there.2 a h2 (z▸Ec)
     . exact ?rP (z▸h2)
   . rcases h2 with h2 | h2
     . exact(nb a h2).2.2
     . exact nN a (tU _ (s3.free h2))
 . by_cases hap:a=p
   . rw[hap,Ab]at z;cases z
   . rw[Aj hap]at z;exact x.nn a ha (tU _ (mQ.free z))
noncomputable abbrev Lq:Stmt:=Ex (top 63) 0
theorem X8:?q ?iZ ?iZ (Au Lq):=Bh
theorem Yn[?u](F:Er K ?l2 "Work.__init__" Lq f fd)[?t](Kv:fV P w K mg ?e Ag ?e2 1 (?uO Mg))(Q4:Has P w K mg ?e ?kS ?hO 2 (bI K)):?tS ?iZ (DT K Ag Ad Ah):=by
 refine ?uE X8;obtain⟨H0,p,dx,v,n,w,M,rfl,s0,fp,hp,hv,hn,hw,k⟩:=h;obtain⟨ta,us,rfl,hq0,V7,_⟩:=?g9
 refine⟨_,(Af (?x1 ?i)
  (Af (?x1 ?n)
  (Af (?x1 (Mp Kv hr ?f ?k3 (Aa (?wC Q4 (?uA ?W)) (?xB (?wC Q4 (?uA ?W))))))
  (Af (?x1 (Mp Kv hr ?f ?k3 (?tT (?wC Q4 ?bC) (?wC Q4 ?bC))))
  (Ai (?x1 ?cK)))))),?_⟩
 ext B
 have mkL:∀{G1 G2 G3:Hp}{D1 D2 L CJ:Addr}{VP IK:?sC}{m:Nat}{fs:?j6}{G4:Hp}{N:Addr->Prop},VP.length=m->Rows G1 G2 D1 VP m (?uP 0)->IK.length=m->Rows G2 G3 D2 IK m (?uP 0)->G3 L=none->?h G3 (?v9 L)->fs=?M ?e8 (?k D2) (?uU [])->G4=upd (upd (?v9 L) L (?Q Ag CJ (?uU []))) L (?Q Ag CJ fs)->(∀a,N a->G1 a≠none) →
  ?rN/\LX G4 Ag L D1 D2 ?l m m ?cB N:=by
  intro G1 G2 G3 D1 D2 L CJ VP IK m fs G4 N hl1 R1 hl2 R2 nL sN hfs yK hN;have hL4:G4 L=?c (?Q Ag CJ fs):=by rw[yK];exact Ab
  have st:?rN:=fun a o e=>by
   rw[yK,Aj (Ao e nL),Aj (Ao e nL)];exact sN _ _ e
  clear yK
  have x1:TA G4 D1 VP m m ?jD:=((?sE).same (R2.same.trans st)).congr fun i c _ _=>by
   by_cases z:i=c
   . subst z;simp[Lat.one]
   . ext tF
  have x2:TA G4 D2 IK m m ?jD:=((TA.of R2 hl2).same st).congr fun i c _ _=>by
   by_cases z:i=c
   . subst z;simp[Lat.one]
   . ext tF
  have t1:=(?sE).there;have f2:?vX G2 ?n3:=fun a e=>?kW e;have nN:∀a,?n3->¬N a:=fun a e z=>hN a z e;refine⟨st,⟨CJ,fs,hL4,?lP,?lP,?lP,?kQ,?_⟩,⟨VP,x1,?c3⟩,⟨IK,x2,?c3⟩,fun z=>t1.1 ?mX,nN _ ?kR,nN _ (f2 _ R2.free),fun a ha z=>hN a ha (f2 _ (R2.same.free (st.free z)))⟩
  . rw[hfs,Aq,?e1,Aq,?e1];rfl
  . rw[hfs];exact qa6 ?dA (qa6 ?o7 ?aJ)
  . obtain⟨i,hi,rfl⟩:=qj0 ha;obtain⟨z1,z2,z3⟩:=R1.row i _ (?f0);exact⟨z2,fun z=>t1.2 _ ha ?mX,nN _ z1⟩
  . obtain⟨i,hi,rfl⟩:=qj0 ha;obtain⟨z1,z2,z3⟩:=R2.row i _ (?f0);exact⟨fun z=>t1.1 (z▸z1),z2,nN _ (f2 _ z1)⟩
 refine⟨_,rfl,_,rfl,p,Ah,dx,_,rfl,hp,?eF,T.na_Work_table,?dD,?_⟩;refine El (fun σ' H'=>?gK/\upd H p (?Q Ah dx (?M ?aL (?k ta) []))=H') ?_ ?eW;ext dQ;refine ?u0 (fun σ' H'=>?gK/\∃fs,fs=?M ?aZ (?d (w:Int)) (?M ?aL (?k ta) [])/\?lI/\?b4 p H H')
 . refine⟨_,rfl,_,rfl,p,Ah,dx,_,rfl,Ab,?eF,T.na_Work_width,by simp[putF],?_⟩;exact ?u8 ⟨rfl,_,rfl,Ab,?cD ?eD⟩
 refine Hn fun H2 DJ=>?_;intro sq;obtain⟨fs2,hf2,hp2,sx2⟩:=DJ;have l2:fs2.length<=2:=by rw[hf2];exact ?qZ
 have WR:?h H0 H2:=sx2.same s0 fp;refine ?u0 (fun σ' H'=>?gK/\∃(L O1 O2:Addr) (fs:?j6),fs=?M "left" (?k L) fs2/\?lI/\?b4 p H2 H'/\Kp H2 H'/\p≠L/\H2 L=none/\H2 O1=none/\H2 O2=none/\?wF H' (?gZ))
 . refine⟨_,rfl,ta,us,rfl,?p (WR.seq hq0),n,(by rw[V7]<;>rfl),O9m,fun O1 os1 G1 hl1 R1=>?_⟩;refine⟨_,rfl,ta,us,rfl,?p ((WR.trans R1.same).seq hq0),n,(by rw[V7]<;>rfl),O9m,fun O2 os2 G2 hl2 R2=>?_⟩;have s2:=?qD;intro L dl nL ndl Az9;have sN:?v1 L L:=?pH nL;refine⟨L,dl,Ag,?k O1,?k O2,rfl,?gB,Ab,?q3⟩;obtain⟨st,lx⟩:=?uL nL;have Qd:=st _ _ (?wV hp2);have sR:p≠L:=Ao (?wV hp2) nL;refine(?uI Qd T.na_Work_left);exact ?u8 ⟨rfl,L,O1,O2,_,rfl,Ab,?cD (?fX (?a4 st)),?wG (?a4 st),sR,?iI nL,?kR,?kW R2.free,lx.x Qd sR ?eD ?aD⟩
 refine Hn fun H3 DJ=>?_;intro sq;obtain⟨L,O1,O2,vM,hf3,hp3,sx3,kp3,sR,nL,n1,n2,zM⟩:=DJ;have l3:vM.length<=3:=by rw[hf3];exact qa6 ?dA (qi4 l2)
 have s03:?h H0 H3:=sx3.same WR fp;refine ?u0 (fun σ' H'=>?gK/\∃(R O3 O4:Addr) (fs:?j6),fs=?M "right" (?k R) vM/\?lI/\?b4 p H3 H'/\?pU/\p≠R/\H3 R=none/\H3 O3=none/\H3 O4=none/\?wF H' (fun a=>?r2)/\LX H' Ag R O3 O4 ?l w w ?cB (?gZ))
 . refine⟨_,rfl,w,rfl,O9m,fun O1' os1 G1 hl1 R1=>?_⟩;refine⟨_,rfl,w,rfl,O9m,fun O2' os2 G2 hl2 R2=>?_⟩;have s2:=?qD;intro R dl nR ndl Az9;have sN:?v1 R R:=?pH nR;refine⟨R,dl,Ag,?k O1',?k O2',rfl,?gB,Ab,?q3⟩;obtain⟨st,lx⟩:=?uL nR;have Qd:=st _ _ (?wV hp3);have uX:p≠R:=Ao (?wV hp3) nR;have n4:H3 O2'=none:=?kW R2.free;refine(?uI Qd T.na_Work_right)
   have y1:?wF G4 (fun a=>a=O1'\/a=O2'):=zM.more (?a4 st) (fun a ha=>?o (by rcases ha with rfl | rfl;exact R1.free;exact n4)) fun a ha=>by
    rcases ha with rfl | rfl
    . obtain⟨_,z,_⟩:=lx.rw;exact ?p0
    . obtain⟨_,z,_⟩:=lx.bk;exact ?p0
   exact ?u8 ⟨rfl,R,O1',O2',_,rfl,Ab,?cD (?fX (?a4 st)),?wG (?a4 st),uX,?iI nR,?kR,n4,y1.x Qd sR ?eD ?aD,lx.x Qd uX ?eD ?aD⟩
 refine Hn fun H4 DJ=>?_;intro sq;obtain⟨R,O3,O4,fs4,ZQ,Qd,UQ,kp4,uX,nR,n3,n4,lx4,ly4⟩:=DJ;have l4:fs4.length<=4:=by rw[ZQ];exact qa6 ?dA (qi4 l3)
 have uS:?h H0 H4:=UQ.same s03 fp;refine⟨?aA,fun nm hnm=>?_⟩;have sn:?h H4 (?p2):=?y hnm;have yD:upd H4 nm ?d8 nm=?c ?d8:=Ab;have EW:=sn _ _ Qd;generalize ?p2=H5 at sn yD EW;refine(?uI EW T.na_Work_numbers)
 have ex:∀a,?o9->H5 a≠none:=fun a ha=>by
  rcases ha with rfl | rfl | rfl
  . rw[yD];exact fun z=>?s1
  . obtain⟨_,z,_⟩:=ly4.rw;exact ?pG
  . obtain⟨_,z,_⟩:=ly4.bk;exact ?pG
 have z1:?wF H5 (fun a=>?o9):=lx4.more sn (fun a ha=>ha.elim (fun e=>?o (e▸hnm)) ?p) ex;have z2:LX H5 Ag R O3 O4 ?l w w ?cB (fun a=>a=nm):=ly4.more sn (fun a ha=>?o (ha▸hnm)) fun a ha=>ex a (?p ha);have DO:?b4 p H5 (?v8 p):=?fR;have s06:?h H0 (?v8 p):=DO.same (uS.trans sn) fp;have g2:?vX H2 ?mC:=fun a e=>WR.free e;have g3:?vX H3 ?mC:=fun a e=>s03.free e;have npn:p≠nm:=Ao Qd hnm;have LR:L≠R:=fun z=>by obtain⟨_,_,q,_⟩:=zM.ob;rw[z,nR]at q;cases q
 refine k L R nm _ ⟨⟨?k ta,dx,_,Ab,?_,?_,?_,?_,?_,?kQ,?_,fun M' e=>by cases e;exact ?bM (fun a o e=>by rw[Ze (Ao e (?pF))];exact s06 _ _ e) hv⟩,⟨O1,O2,O3,O4,z1.x EW sR DO ?aD,z2.x EW uX DO ?aD,g2 _ n1,g2 _ n2,g3 _ n3,g3 _ n4⟩,by rw[Aj npn.symm];exact yD,s06,⟨fp,g2 _ nL,g3 _ nR,?pF⟩,⟨sR,uX,LR⟩,⟨hn,hw⟩⟩
 . rw[ZQ,hf3,hf2];ext bY
 . rw[ZQ,hf3,hf2];ext bY
 . rw[ZQ,hf3];ext bY
 . rw[ZQ];ext bY
 . ext bY
 . rw[ZQ,hf3,hf2]
   iterate 5 rw[Aq,?e1]
   rfl
 . exact qa6 ?dA O9m
noncomputable abbrev Rl:Stmt:=top 71
theorem D9:?q [?aY,"bases","lifts","parts","order","loop","gauge","filling",?dG,?a8] ?nP (Au Rl):=Bh
theorem EF[?u](F:Er K ?pX ?pX Rl f fd)[?t](pF:Has P w K mg ?e ?iA ?fV 2 (iZ K))(HG:Has P w K mg ?e "times" [?a8,?gA] 1 (dQ K)):?tS ?nP (Vv K):=by
 refine ?uE D9;obtain⟨a,b,xs,us,ls,rfl,hL,Jv,hb,hB,hok,kq⟩:=h;obtain⟨_,xu,z,hq,r⟩:=id hL
 refine⟨_,(Af (bN (N':=["piece"]) (cap:=?e0) (i:=2) ?bT ?f (by first | exact Or.inl rfl | exact Or.inr rfl) ?f ?N ?eV (?tQ (?wY 0 XG)) ?aB (fun _ _ _ _=>Ix))
  (Af (B8 qb6 rfl (?u7 Cd ?i) (?uR 3) (Ai (B8 qb6 rfl (?u7 Cd ?v) (Dy (K:=K) (n:=4) ?f (Bm (?uR 4) (Bm (?uR 5) (Bm (?uR 6) (Bm (?uR 7) Dx))))) (?xH (?tZ Et ?A) (Rw (B8 qb6 rfl (Pb ?bW) (?w9 (?uR 8) (?uR 9)) (Ai (Kn (?wC pF (?tT (Ba ?L ?n ?cL ?w) (An HG hr (Aa ?cY (?xB ?d4))))) (Ko ?n ?cL Fh)))))))))
  ?gR)),?_⟩
 ext B
 cases z;have xul:xu.length=xs.length:=?oW
 refine ?u0 (fun σ' H'=>Ij fun ?q4 ?eJ=>Dp (σ'=[?z,?aU,?G,none,none,none,none,none,none,none]) ?cQ (?eL) (H' D=?dM) (Ft H H' ws (?dK ?c7 [])))
 . ext hU
   let Bd8:?P:=fun i ws τ G=>B6 ?f2 (G D=?dM) (Ft H G ws (?dK i [])) ?eZ
   refine Cp (K:=K) (a:=a) (xs:=xu) Bd8
    (?vR ⟨rfl,fun i v e=>by simp at e⟩) (fun i ws τ G _ hz=>by obtain⟨g,_⟩:=hz;exact g.seq hq) ?_ ?_
   . rintro i x ws τ G hx C3;ext i0;intro g Ev dd o Ei;have hi:i<xu.length:=?dP;have wl:ws.length=i:=by have:=dd.1;rwa [ql4]at this
     refine ?i3;have g1:?h G (?s5):=?y hE;refine⟨?r5,?aF,(?dF g1).turn hD,Ab,?_,_,rfl⟩;rw[qu0];refine Ft.keep (H:=?s5) ((dd.same g1).snoc (g.free hE) Ab) fun c kvs _ e=>?_;rw[?g1]
     . exact e
     . rw[z,?r5]at e;cases e
   . rintro ws τ G ⟨g,Ev,dd,_⟩;rw[xul]at dd;exact ?u8 ⟨D,ws,rfl,g,hD,Ev,dd⟩
 refine iR fun D ws H1 s1 nD hD dd=>?_;intro sq;refine ?u0 (fun σ' H'=>vZ fun ?eJ ?nX=>B6 (σ'=?mG) ?cQ (H' D=?dM) (Ft H H' ws (Nu ?c7 ls)))
 . refine(?wN b (?x7 (?n0)))
   refine ?cG (K:=K) (a:=b) (xs:=us) (fun i σ G=>vZ fun ?eJ ?nX=>Dp (σ=?mG) ?f2 (G D=?dM) (Ft H G ws (?gI)) (c7 ?c7 (?gI)))
    ⟨ws,_,_,_,_,_,_,_,rfl,s1,hD,dd,c7.first _⟩ (fun i σ G _ hz=>by obtain⟨_,_,_,_,_,_,_,_,_,g,_⟩:=hz;exact ?tY g hb) ?_ ?_
   . rintro i v σ G hv C3;revert σ;ext t5;have hi:=?fG;have h0:=hB.1;obtain⟨ps,hps⟩:∃ps,ls[i]?=?c ps:=?hG
     obtain⟨pa,pu,rfl,hpa,rP⟩:=hB.2 i v ps hv hps;have pok:=hok ps (qb0 hps);have pl:=rP.len
     have etk:Nu ?c7 (ls.take ?aC)=V4 (?gI) ps:=by
      unfold Nu;rw[qf7,hps,qr3];rfl
     rw[etk];generalize ?gI=lf at dd dI;refine(?wN pa ⟨_,?tY g hpa⟩)
     refine ?cG (K:=K) (a:=pa) (xs:=pu) (fun j σ G=>uK fun ?eJ (o2 o3 o4 o5 o6 o7:?b6)=>Dp (σ=[?z,?aU,?G,rS pa,o2,o3,o4,o5,o6,o7]) ?f2 (G D=?dM) (Ft H G ws (?g0)) (c7 ?c7 (?g0)))
      ?o6 (fun i σ G _ hz=>by obtain⟨_,_,_,_,_,_,_,_,g,_⟩:=hz;exact ?tY g hpa) ?_ ?_
     . rintro j v σ G hv C3;revert σ;ext tA;obtain⟨p,hp,pv⟩:=rP.get hv;obtain⟨t,c1,c2,c3,rfl,et,e1,e2,e3,nec⟩:=pv.same g;have pk:=pok p (?jN)
       have ejk:V4 lf (?dO (j+1))=jH (?g0) p:=by
        unfold V4;rw[qf7,hp,qr3];rfl
       rw[ejk];generalize ?g0=lg at dd dI
       have e20:∃kvs,H c2=?c (.dK kvs):=by
        obtain⟨t',_,c2',_,q1,q2,_,q4,_⟩:=pv;cases q1;have:=g _ _ q2;rw[et]at this;ext hZ;ext hZ;injection this with _ this;injection this with _ this;ext hZ;ext hZ;exact⟨_,by rw[this];exact q4⟩
       refine⟨t,_,rfl,?b8,rfl,_,_,rfl,_,_,rfl,_,_,rfl,_,_,rfl,rfl,?_⟩;ext a6;ext a5
       . have h1:?gT:=?C
         have eP:jH lg p=p.2.2.1.foldl (lift1 ?eQ) lg:=?a3 h1;rw[eP];have nDc:c2≠D:=fun z=>by rw[z,Ev]at e2;cases e2
         refine ?o ⟨c2,?fQ,e2,?dB⟩;refine(?uG c2 ?fQ)
         refine Vd (d:=c2) (o:=o) (kvs:=?fQ) (fun m σ G2=>Qt fun ?eJ (o6 o7:?b6)=>K8 (σ=[?z,?aU,?G,rS pa,?iG,rS c1,rS c2,rS c3,o6,o7]) (G2 c2=?c (?vD ?fQ)) (G2 D=?dM) (Ft H G2 ws (?hD)) (c7 ?c7 (?hD)) ((∀c q,c≠c2->c≠D->G c=?b7->G2 c=?b7)))
          ⟨ws,_,_,rfl,Ab,by rw[Aj nDc.symm];exact Ev,?_,dI,fun c q n1 _ e=>?sF⟩ (?uN _) ?_ ?_
         . refine ?oI;rw[?g1]
           . exact e
           . obtain⟨_,q⟩:=e20;rw[z,q]at e0;cases e0
         . rintro m kk x σ G2 pp hx C3 hpp;ext t6;ext f9;obtain⟨x0,x1⟩:=pk.gk q ?f6
           have emk:?w5 (m+1)=lift1 ?eQ (?hD) q:=by
            rw[qf7,hq,qr3];rfl
           rw[emk];generalize ?hD=lh at dd dI;have wl:ws.length=xs.length:=dd.1.trans dI.1;have wO:?h G2 (upd G2 pp (?x [?f7,?aQ])):=?y hpp;refine(?uC pp);obtain⟨v,hv⟩:∃v,ws[?cO]?=?a0:=?hG
           obtain⟨c,rfl,nc,hc⟩:=dd.2 _ v hv
           have hat:iK ws q.1=?c (?k c):=by
            have:=Bp hv
            ext tD
           have nc3:c3≠D:=fun z=>by rw[z,Ev]at e3;cases e3
           have e33:=wO _ _ (hk _ _ nec.symm nc3 e3);have lc:=dI.at ?cO;refine⟨_,rfl,_,rfl,D,ws,_,_,rfl,rfl,?tY wO EX,hat,_,rfl,_,rfl,q.2,c3,?eQ,rfl,e33,qa6 pk.fl.len ?aJ,pk.mul q ?f6,fun T G4 nT s4 hT=>?_⟩;refine⟨c,T,_,_,rfl,?p (s4 _ _ (wO _ _ hc)),hT,qa6 lc.len ?aJ,qa6 (pk.fl.times q.2).len ?aJ,fun E G5 nE s5 hE=>?_⟩;have s15:=(wO.trans s4).trans s5;refine⟨_,rfl,_,rfl,D,ws,_,_,rfl,rfl,?mB,by rw[wl];have:=J3 (l:=xs.length) (i:=?cO) O9m;ext tD,?_⟩;refine⟨_,_,_,rfl,?_,Ab,?_,dI.lift1 pk.fl q,fun d r n1 n2 e=>?_⟩
           . rw[Aj nDc];exact s15 _ _ hc2
           . refine Ft.keep (H:=G5) ((dd.same s15).set ?_ hE ?cO) fun d kvs _ e=>?_
             . cases e:H E with
               | none=>rfl
               | some r =>
                 have:=(wO.trans s4) _ _ (hk E r (?w7 hc2).symm (?w7 EX).symm (g _ _ e));rw[nE]at this;cases this
             . rw[?g1]
               . exact e
               . rw[z,?mB]at e;cases e
           . rw[?eM];exact s15 _ _ (hk d r n1 n2 e)
         . rintro σ G2 C3;ext t6;rw[Mb,qd2]at dd dI;refine⟨hc2,ws,_,_,_,_,_,_,rfl,fun c r e=>?_,by rw[Aj nDc.symm];exact EX,?oI,dI⟩
           . by_cases z:c=c2
             . subst z;have:=g _ _ e;rw[e2]at this;cases this;exact Ab
             . rw[?bU];exact hk c r z (Ao e nD) (g _ _ e)
           . rw[?g1]
             . exact e
             . rw[z,hc2]at e;cases e
       . have h1:¬?gT:=?C
         have eP:jH lg p=lg:=?T h1;rw[eP];exact ?o6
     . ext bE;ext tA;rw[pl,qd2]at dd dI;exact⟨ws,_,_,_,_,_,_,_,rfl,g,Ev,dd,dI⟩
   . ext bE;ext t5;rw[hB.1,qd2]at dd;exact ?u8 ⟨ws,_,_,_,_,_,_,_,rfl,g,Ev,dd⟩
 refine Aa6 fun ws o1 o2 o3 o4 o5 o6 o7 H2 s2 Op dd=>?_;intro sq;exact⟨_,rfl,kq D ws H2 nD s2 Op dd⟩
noncomputable abbrev Lu:Stmt:=top 81
theorem G8:?q [?bL,?h5,?h9,"_law_last","_law_hole"] ?rQ (Au Lu):=Bh
theorem Yp[?u](F:Er K ?qA ?qA Lu f fd)[?t][?tB](Ja:Has P w K mg ?e ?iE ?kE 2 (V0 K)):?tS ?rQ (So K):=by
 refine ?uE G8;obtain⟨a,D,xs,k,us,ps,O,rfl,hL,hD,rP,hok,kq⟩:=h;ext bF
 refine⟨_,(Af (?wZ Eh (D6 (?wB cZ ?n)))
  (Af (?u9 G8.nd Ak)
  (Af (B8 qb6 rfl (?u7 Cd ?n) (?vI G8.nd) (Af (?wZ ?Y (Ml (?wH CY ?A) (Ml (?tZ Iy (?wK (?xB ?A))) (Nm (?vH (?xB ?aI))))))
  (Af (?wZ ?Y (Ml (?tZ Pc ?aI) (?xJ (?tZ Et ?aI) (?wM (?tZ Et ?v) ?aI))))
  (Af (B9 (?wM (?tZ OA ?v) (Bq Jo ?aI ?v)) ?F Bo)
  (Af (?u9 G8.nd ?aI)
  (Af (?wZ ?Y (?xJ (?xA ?i) (?xA ?i)))
  (Ai (?wZ ?Y (?xJ (?xA (Bq Ds ?i Ak)) (?Y (Up (?tZ Et ?aI) (P9 (Bf (oA (n:=8) Qk) ?aI Ix ?m)))))))))))))
  ?F))),?_⟩
 ext B
 refine⟨_,rfl,D,us,rfl,hD,_,rfl,?_⟩;ext bZ;refine ?u3 [?z,?b0,?G,none,none];ext dT;refine ?u3 [?z,?b0,?G,iS 1,none];ext dT;refine ?u0 (fun σ' H'=>Ij fun o3 o4=>σ'=[?z,?b0,?G,o3,o4]/\?hH)
 . refine(?wN D (?x7 hD))
   refine ?cG (K:=K) (a:=D) (xs:=us) (fun i σ G=>Es fun o4=>σ=[?z,?b0,?G,?wE (?e3),o4]/\?lD)
    ⟨?l,rfl,?h1⟩ (fun i σ G _ hz=>by obtain⟨_,_,g⟩:=hz;exact ?tY g hD) ?_ ?_
   . rintro i v σ G hv C3;revert σ;refine ?f5;intro o4 g Ei;have hi:=?fG;obtain⟨p,hp⟩:?qW:=⟨_,qa0 (by have:=rP.1;omega)⟩
     obtain⟨t,c1,c2,c3,rfl,_,et,e1,e2,e3⟩:=(rP.same g).2 i v p hv hp;have hpm:=?jN;have ho:=?oC;obtain⟨l0,l1,l2⟩:=oV hok.ord (fun q hq=>(hok.one q hq).nn) hp;have els:Ks ps ?aC=p.1:=Y5 hp;rw[els];have hn1:=ho.n1;have hnn:=ho.nn;ext lT
     . refine⟨_,rfl,t,_,rfl,et,_,rfl,?_⟩;ext bZ;refine⟨_,rfl,t,_,rfl,?o (?b8),rfl,_,rfl,?_⟩;ext fB;refine(?uV ?gF ?gF);ext lX;ext fA
     ext dQ;ext lT
     . refine(?uV _ _);ext bD;ext lV;refine ?v6 (by simpa using hn1);ext a6;ext a5
       . have h1:?e3=0:=?C
         ext lV;refine ?v6 (by rw[l1 h1];simp);ext fA
       . ext fA
     ext dQ;ext lT
     . ext X;ext a5
       . have h1:0<?e3:=?C
         refine⟨_,rfl,t,_,_,_,rfl,rfl,?b8,rfl,_,rfl,_,_,rfl,rfl,h1,rfl,_,rfl,?_⟩;refine ?v6 (by show ¬(! ?I (?J (p.1%?e3)=?J 0))=true;rw[l2 h1];simp);ext fA
       . ext fA
     ext dQ;refine ?u0 (?x5 [?z,?b0,?G,?iG,rS t])
     . exact⟨_,rfl,t,_,_,_,rfl,rfl,?b8,rfl,?jA⟩
     ext dQ;have HH:=?sD;refine ?u0 (fun σ' H'=>σ'=[?z,?b0,?G,?iG,rS t]/\?r9)
     . refine⟨_,rfl,_,rfl,_,rfl,t,_,_,_,rfl,rfl,?b8,rfl,a,c1,xs,k,_,rfl,HH,e1,ho.lp,fun G1 g1=>?l7⟩;ext bZ;have et':=?oR;refine⟨_,rfl,_,rfl,_,rfl,t,_,_,_,rfl,rfl,.of et',rfl,a,c2,xs,k,_,rfl,?p6,g1 _ _ e2,ho.gg,?rI⟩;ext bZ;exact ?rC
     refine Hn fun G1 g1=>?_;intro sq;have et1:=?oR;refine⟨_,rfl,_,rfl,_,_,rfl,rfl,_,rfl,t,_,_,_,rfl,rfl,.of et1,rfl,a,c3,xs,k+1,_,rfl,?p6,g1 _ _ e3,ho.fl,?rI⟩;ext bZ;have et2:=g2 _ _ et1;have JO:=g1.trans g2;refine⟨_,rfl,t,_,_,_,rfl,rfl,.of et2,rfl,rfl,_,rfl,?_⟩;ext a5
     . have h1:p.1=0:=?C
       refine⟨_,rfl,t,_,_,_,rfl,rfl,.of et2,rfl,?i3⟩;have g3:=?y (o:=?iK) hE;have e33:=g3 _ _ (JO _ _ e3);rw[ho.no h1]at e33;refine⟨c3,E,[],[],rfl,rfl,?p e33,?p Ab,_,rfl,?_⟩;ext bZ;exact⟨_,rfl,(?dF JO).trans g3⟩
     . exact⟨_,rfl,?dF JO⟩
   . ext bE;refine ?f5;intro o4 g Ei;exact ?n2
 refine IS fun o3 o4 G g=>?_;intro sq;exact kq G g
noncomputable abbrev Ni:Stmt:=top 86
theorem Dn:?q [?oB,?oK,?s3,?bO,?f1,?iS,?nU] ?pK (Au Ni):=Bh
theorem i9[?u](F:Er K ?pC ?pC Ni f fd)[?t](L8:Has P w K mg ?e ?iQ ?jC 2 (Oe K))(R8:Has P w K mg ?e ?l5 ?kG 1 (Ss K))[?sZ]:?tS ?pK (Qx K):=by
 refine ?uE Dn;obtain⟨a,ns,kind,most,rfl,hS,hl,hm0,hm1,k⟩:=h;ext bF
 refine⟨_,(Af (?u9 ?cR Ak)
  (Af (?wD (?x6 Jo) (?u9 ?cR (Mn Ht Ak)))
  (Af (?wD (?x6 Jo) (?u9 ?cR (?xE Ak)))
  (Af (?uT ?cR ?cK)
  (Af (B8 qb6 rfl (?u7 Cd ?i) (?wY 5 ?cR) (Af (Av (i:=6) ?cR (?wC L8 (Aa ?A (Aa (An R8 hr (Aa ?aO (?tT ?v (?xE Ak)))) ?fU))))
  (?xH (Bf JC (?wK (?xB ?bW)) ?n ?m) (?uT ?cR ?bW))))
  (Ai (Bb (Cc (N':=[?cH,?bO,?f1]) (cap:=[none,?c 3,?c 4]) ?f ?N (?u7 Cd ?A) (?tQ (?wY 0 xF)) ?aB (?tQ (Cj (?x9 Ku) ?f ?jB Je (?xB (Cc (N':=[?jJ,?f1]) (cap:=[none,?c 2]) ?f ?N (Cd (K:=K) (?wC Gx ?cV)) (fun _ _ _ _=>(?wY 0 XE)) ?aB (fun _ _ _ _=>(Gn (K:=K) qd4 PySem.F.slot_list_index PySem.F.type_list_index (LI (K:=K) Qk) ?i ?Z)))))))))))))),?_⟩
 ext B
 refine ?u3 [?h6,?z,?g5,iS 0,none,none,none];ext dT;refine As (?u5 H) ?_ fun Ai6=>?_;rotate_left
 . ext sS
   . exact⟨_,rfl,Ai6 _ _ ⟨-1,rfl,rfl,?c9⟩⟩
   . exact Ai6 _ _ ⟨0,rfl,rfl,?c9⟩
 refine uN fun Ba2 hf0=>?_;intro sq;refine As (?u5 H) ?_ fun HC=>?_;rotate_left
 . ext sS
   . refine⟨_,rfl,_,_,rfl,rfl,?iL,_,_,rfl,rfl,(?uB 19),_,_,rfl,rfl,HC _ _ ?pP⟩;have:kind / 18%19<19:=?i4;omega
   . exact HC _ _ ⟨Ba2,rfl,rfl,hf0⟩
 refine uN fun fam hf=>?_;intro sq;have l1:0<=kind / 3%6:=?rK;have l2:kind / 3%6<6:=?i4;refine⟨?aA,fun W0 hW0=>?_⟩;have s0:?h H (upd H W0 ?d8):=?y hW0
 refine⟨_,rfl,a,rfl,⟨_,s0.seq hS⟩,?cG (K:=K) (a:=a) (xs:=?kX)
  (fun j σ H2=>z8 fun(W:Addr) (wu:?cX) (ws:At) (o5 o6:?b6)=>M9 (σ=[?h6,?z,?g5,?S,rS W,o5,o6]) ?bH (?vC W) (H2 W=?u1 wu) (?a1 K H2 wu (?d1)) (JX fam ws) ((ws.length:Int)<=most))
  ⟨W0,[],[],?l,?l,rfl,s0,hW0,Ab,rfl,JX.nil,by simpa using hm0⟩ (fun j σ H2 _ hz=>by obtain⟨_,_,_,_,_,_,s2,_⟩:=hz;exact ?e6 hS) ?_ ?_⟩
 . rintro j x σ H2 hx C3
   ext K
   ext t0;have hjn:?sJ:=?hJ
   have hxv:x=?d ns[j]:=by
    rw[qa9,qa0 hjn]at hx;simpa using hx.symm
   subst hxv;refine⟨_,rfl,_,rfl,_,rfl,_,rfl,_,_,rfl,rfl,?iL,_,_,rfl,rfl,(?uB 6),_,_,rfl,rfl,?_⟩;refine⟨_,_,_,rfl,O9m,O9m,O9m,fun v H3 w s3 tv hw=>?_⟩;ext fE;refine⟨W,wu,v,ws,w,fam,rfl,s3 _ _ YH,?U s3 rW,tv,hw,O9m,fun M mu H4 hM s4 hM4 rM=>?_⟩;have mQ:=?iO;have hMH:?q1:=(?a4 s3).free hM;have mul:mu.length=(?nK).length:=?mZ
   refine⟨_,rfl,M,_,rfl,?p (.of hM4),_,rfl,_,_,rfl,rfl,_,rfl,?_⟩;ext a5
   . have h2:(mu.length:Int)<=most:=?C
     exact⟨_,rfl,M,mu,?nK,_,_,rfl,?a4 mQ,hMH,hM4,rM,f6 hO hw,O9m⟩
   . exact⟨W,wu,ws,_,_,rfl,?a4 mQ,hW,mQ _ _ YH,?U mQ rW,hO,hwl⟩
 . rintro σ H2 C3;ext t0;have wul:wu.length=ws.length:=by have:=rW.length;ext H
   refine(?u4 W (?x7 YH));have hDH:?eL:=?iI hD
   let Bd7:?P:=fun i ys τ H1=>B6 (?h H2 H1) ?bN (?v7 ?oN ?jZ) (?uD [o,?S,rS W])
   refine Cp (K:=K) (a:=W) (xs:=wu) Bd7
    ?eX (fun i ys τ H1 _ hz=>by ext fD;exact ?tY s1 YH) ?_ ?_
   . ext hT;intro s1 Ec r1 o Ei;have hi:i<wu.length:=?dP;have hil:i<ws.length:=O9m
     have hix:(?d1)[i]?=?c (tI ws[i]):=by rw[qa9,qa0 hil];rfl
     obtain⟨x',hx',tx⟩:=rW.get hix;rw[hx]at hx';cases hx';obtain⟨hwi,zQ⟩:=hO.mem (qe4 hil);generalize hwe:ws[i]=w at tx hwi zQ;refine⟨_,rfl,_,rfl,x,w,fam,rfl,?hI s1 tx,hwi,fun p fu H3 hp s3 hp3 r3=>?_⟩;have ful:fu.length=?mV:=by have:=r3.length;ext H
     have s13:=?dI s3;refine⟨p,rfl,(?x7 hp3),fun D2 Op=>?_⟩
     let Bd6:?P:=fun m zs τ H4=>B6 (?h H3 H4) (H4 D2=?k5) (zs=((?bI).take m).map (fun f=>?J ?qB)) (?uD [o,rS W])
     refine Cp (K:=K) (a:=p) (xs:=fu) Bd6
      ⟨?y Op,Ab,rfl,?l,rfl⟩ (fun m zs τ H4 _ hz=>by obtain⟨s4,_⟩:=hz;exact ?tY s4 hp3) ?_ ?_
     . rintro m y zs τ H4 hy C3;ext i0;intro s4 DI hzs o Ei;have hm:?nW:=?i8;have hmf:m<?mV:=O9m
       have hmy:(?nB tI)[m]?=?c (tI ?fI):=?pR
       obtain⟨y',hy',ty⟩:=r3.get hmy;rw[hy]at hy';cases hy';have hfm:?fI∈ws:=zQ _ (qe4 _);have JB:=s13.trans s4;have rw4:Rep K H4 (?k W) (?j (?d1)):=⟨W,wu,rfl,?tY JB YH,?U JB rW⟩
       have hfl:=(Kb hwi)
       have hzl:zs.length<=4:=by
        rw[hzs,qa4,qc9];have:=hfl.2;have:=hfl.1;split at this<;>omega
       refine⟨_,rfl,?p ⟨rfl,_,?tY JB YH⟩,_,rfl,?d1,y,tI ?fI,CC ws ?fI,rfl,rw4,?hI s4 ty,(by have:=Pt ws;omega),HN hfm,?_⟩;refine⟨DI,?aF,s4.turn Op,Ab,?_,_,rfl⟩;rw[qf7,?iD,qb5,hzs];rfl
     . rintro zs τ H4 ⟨s4,DI,hzs,_⟩;rw[ful,qd2]at hzs;have JB:=s13.trans s4;refine⟨D2,_,rfl,?p ⟨.of DI,?p1⟩⟩;have s5:?h H4 (upd H4 T (?x zs)):=?y hT;have hD5:=(?iM (s4.trans s5)) _ _ Ec
       have t5:TI K (upd H4 T (?x zs)) (?k T) (?lO):=by
        refine ?dZ (.of ?_);rw[ql3,Ab,hzs];rfl
       ext t1
       refine⟨hD5,?aF,(JB.trans s5).turn hD,Ab,?_,_,rfl⟩
       have e2:(ws.take ?aC).map (?jZ)=?oN (?jZ)++[?lO]:=by
        rw[qf7,qa0 hil,hwe,qb5];rfl
       rw[e2];exact No hD5 (?U (?iM (s4.trans s5)) r1) t5
   . rintro ys τ H1 ⟨s1,Ec,r1,_⟩;rw[wul,qd2]at r1;exact k D ys H1 (Na ws fam) hDH (?a4 s1) Ec r1 (g6 hO) (by unfold Na;rw[qa4];exact hwl)
noncomputable abbrev Jm:Stmt:=top 87
theorem Hx:?q [?bL,?h9,?iR,"_law_j"] ?rZ (Au Jm):=Bh
theorem Uv[?u](F:Er K ?n7 ?n7 Jm f fd)[?t](N6:Has P w K mg ?e ?l8 ?kV 2 (Sq K))(R9:Has P w K mg ?e ?kY ?lK 1 (aE K)):?tS ?rZ (Xy K):=by
 refine ?uE Hx;obtain⟨a,D,xs,k,us,ps,O,rfl,hL,hD,V7,rP,h4,hok,hrd,kq⟩:=h;ext bF;have h0:=rP.1
 refine⟨_,(Af (B8 qb6 rfl (Ci ?f ?b5 (?uA ?W)) (?wY 2 Hx.nd) (Af (B9 (Bf (oA (n:=8) Qk) (?wC N6 (?tT ?g (?xG (?x3 ?i ?n)))) Ix ?m) ?F Bo)
  (Ai (B8 qb6 rfl (Ci ?f ?b5 (?uA ?W)) (?uY Hx.nd) (Ai (B9 (Bf Iy (?wC R9 (Aa (?xG (?x3 ?i ?n)) (?xB (?xG (?x3 ?i ?v))))) (Cj MG ?f T.n_int ?mE (?xB (Le Et ?n ?v ?m))) ?m) ?F Bo))))))
  ?F),?_⟩
 ext B
 refine ?u0 (fun σ' H'=>Ij fun o2 o3=>σ'=?nG/\?hH)
 . refine(?wP (.of hD))
   let Bd5:?bR:=fun i σ G=>Ij fun o2 o3=>σ=?nG/\?lD
   refine ?vV Bd5 ⟨_,_,rfl,?h1⟩
   . rintro i σ G hi C3
     ext K
     revert σ;refine JI ?_;intro o2 o3 g Ei;rw[show ?cI=?bP by omega];obtain⟨v,hv⟩:∃v,us[i]?=?a0:=⟨_,?f0⟩
     obtain⟨p,hp⟩:?qW:=?hG
     obtain⟨t,c1,c2,c3,rfl,_,et0,e10,e20,_⟩:=rP.2 i v p hv hp;have hpm:=?jN;have ho:=?oC;have et:=g _ _ et0;have Bk9:=ho.lp.len;refine ?u0 (fun σ' H'=>σ'=?qT/\?r9)
     . refine⟨_,rfl,_,rfl,_,rfl,D,us,_,_,rfl,rfl,?tY g hD,Bp hv,t,_,_,_,rfl,rfl,?b8,rfl,a,c1,xs,_,rfl,?sD,g _ _ e10,O9m,h4,fun q hq=>(ho.lp.part q hq).1,fun E G1 nE g1 hE=>fun E2 YK=>?_⟩;have g2:=?y (o:=?iK) YK;have hE':=g2 _ _ hE;rw[hrd.rnd p hpm]at hE';refine⟨E,E2,[],[],rfl,rfl,?p hE',?p Ab,_,rfl,?_⟩;ext bZ;exact ?rC
     refine Hn fun G1 g1=>?_;intro sq;have gg:=?dF g1;refine(?wP (?tY gg hD))
     let Bd4:?bR:=fun j σ G2=>Es fun o3=>σ=?qT/\?h H G2
     refine ?vV Bd4 ⟨_,rfl,gg⟩
     . rintro j σ G2 hj C3
       ext K
       revert σ;refine ?f5;intro o3 g2 Ei;rw[show ?bQ+?j0=?j0 by omega];obtain⟨v',hv'⟩:∃v,us[j]?=?a0:=⟨_,qa0 hj⟩
       obtain⟨q,hq⟩:∃p,ps[j]?=?c p:=?hG
       obtain⟨t',d1,d2,d3,rfl,_,et',f1,_,_⟩:=rP.2 j v' q hv' hq;have hqm:=qb0 hq;refine⟨_,rfl,_,rfl,D,us,_,_,rfl,rfl,?tY g2 hD,Bp hv,t,_,_,_,rfl,rfl,?tY g2 et0,rfl,_,rfl,_,rfl,D,us,_,_,rfl,rfl,?tY g2 hD,Bp hv',t',_,_,_,rfl,rfl,?tY g2 et',rfl,c2,d1,_,_,rfl,g2 _ _ e20,g2 _ _ f1,hrd.mul p hpm q hqm,fun G3 g3=>?_⟩;have du:=hrd.dual i j p q hp hq;refine⟨_,rfl,_,rfl,rfl,?o ?n8⟩;refine ?v6 ?_
       . rw[du];by_cases z:i=j
         . subst z;simp
         . have z2:¬?bP=?j0:=O9m
           simp[z,z2]
       . exact⟨_,rfl,g2.trans g3⟩
     . rintro σ G2 C3;revert σ;refine ?f5;intro o3 g2 Ei;exact⟨_,_,rfl,g2⟩
   . ext bE;refine JI ?_;intro o2 o3 g Ei;exact ?n2
 refine IS fun o2 o3 G g=>?_;intro sq;exact kq G g
noncomputable abbrev GL:Stmt:=top 8
theorem jB:?q ?eN ?oP (Au GL):=Bh
theorem SM[?u](F:Er K "fits" "fits" GL f fd)[?t][?lZ](N4:Has P w K mg ?e "faces_agree" [?aY,?iU] 1 (Ov K))[?sY]:?w4 ?oP IZ:=by
 refine ?uE jB;obtain⟨a,th,d,xs,rfl,hL,hd,k⟩:=h;obtain⟨z6,y6,i4⟩:=T.x_FACE_COUNTS;ext bF
 refine⟨_,(Af (?wZ ?Y (?xJ (?wH ?eO ?i) (Bf ?gH (?wK ?W) (Ld (v:=?k z6) ?f y6 rfl) rfl)))
  (Af (?vA jB.nd (?wC Fn ?W))
  (Af (B9 (Eh (?xF D6 (Cc (N':=["face",?aY,"level"]) (cap:=[none,?c 0,?c 2]) ?f ?N (?u7 Qc ?i) (?tQ (?wY 0 Ah1)) ?aB (?tQ (?wC Cz (Aa ?i (Aa ?g (Aa (Bq Jn ?n Ak) Ae)))))))) ?F Bo)
  (?x0 (Af5 (Le Pc ?n Ak ?m) (Nq (?wC N4 ?cV))))))),?_⟩
 ext B
 refine⟨_,rfl,_,_,d,rfl,.inr (.inr (.inr (.inl rfl))),hd,_,rfl,?_⟩;cases d with
 | non=>ext dR
 | bl b=>ext dR
 | int i=>ext dR
 | str z=>ext dR
 | lst es=>ext dR
 | tup ds =>
   obtain⟨pa,us,rfl,hq,r⟩:=id hd;have ul:?n5:=r.length;refine ?v6 (by simp[jK]);refine⟨_,rfl,pa,us,rfl,?o hq,?d (us.length:Int),Fj [0,2,3,4],rfl,?o ⟨_,_,rfl,i4 H,Ib.mpr rfl⟩,(by rw[Vf];decide),_,rfl,?_⟩;rw[ul]
   have cnt:(! ?nM ?rY)=! ?h0:=by
    have:?nM (?rY)=?h0:=by
     simp only[Fj,qe0,qt6,ql8,List.any_nil,eqD,cV];rw[ql6];simp only[qp8,qv8,Bool.or_false];omega
    rw[this]
   by_cases hc:?h0=true;rotate_left
   . have hc':?h0=false:=by simpa using hc
     refine cC (by rw[?aW,cnt,hc'];rfl) ?_;have e2:?sK:=by rw[Qf];simp[hc']
     rw[e2]at k;ext dR
   refine ?v6 (by rw[?aW,cnt,hc];simp);have hn4:ds.length<=4:=(uA hc).1;refine⟨_,rfl,_,ds,rfl,?o hd,?_⟩;refine(?u4 pa ?jL)
   let Bd3:?P:=fun i ys τ H1=>B6 ?cZ ?bN (ys=((ds.take i).map fun e=>V.bl (?rT))) (?uD [o,?z,?wE (?cJ)])
   refine Vj (K:=K) (a:=pa) (xs:=us) Bd3
    ?eX (?uH ?jE) ?_ ?_
   . ext hT;intro s1 Ec hys o Ei;have hi:i<us.length:=?dP;obtain⟨e,he,re⟩:=r.getV hx;refine⟨_,rfl,_,rfl,_,rfl,_,_,rfl,rfl,a,x,e,_,xs,rfl,?lC,?bM s1 re,?_⟩;refine⟨Ec,?dE (by rw[hys,qa4,qc9];omega),?iJ,Ab,?_,_,rfl⟩;rw[qf7,he,qb5,hys];rfl
   . rintro ys τ H1 ⟨s1,Ec,hys,_⟩;rw[ul,qd2]at hys;have A34:ys=(ds.map ?e9).map V.bl:=by rw[hys,ql3];rfl
     rw[A34]at Ec;refine⟨D,_,rfl,?kO,_,rfl,?_⟩;have An1:(ds.map ?e9).all id=ds.all ?e9:=by rw[List.all_map];rfl
     by_cases ha:(ds.all ?e9)=true;rotate_left
     . have ha':(ds.all ?e9)=false:=by simpa using ha
       refine cC (by rw[An1,ha'];rfl) ?_;have e2:?sK:=by rw[Qf];rw[ha',hc];rfl
       rw[e2]at k;exact ?eS
     refine ?v6 (by rw[An1,ha];simp);have e2:?nV=(?I (?cJ<2) || Mc xs (ds.map UO)):=by rw[Qf];rw[ha,hc];rfl
     rw[e2]at k;ext X;ext a5
     . have h2:(?I (?cJ<2))=true:=h1;rw[h2]at k;exact ?eS
     . have h2:(?I (?cJ<2))=false:=?C
       rw[h2]at k;have hint:=fP ha
       have tv:TI K H1 ?oQ (ds.map UO):=by
        have:=?bM s1 hd;rw[hint]at this;exact this
       refine⟨_,rfl,_,rfl,a,_,xs,ds.map UO,rfl,?lC,tv,by simpa using hn4,?_,?eS⟩;intro f hf;rw[qe1]at ha
       have hm:L2.D.int f∈ds:=by
        rw[hint];exact qd9.mpr ⟨f,hf,rfl⟩
       have:=ha _ hm;simp only[Dg,qc2,qo0]at this;obtain⟨⟨f0,f1⟩,f2⟩:=this;refine⟨f0,f1,?_⟩;rw[qa4];rw[bY,bY]at f2;have h3:¬?cJ<2:=?b1
       rw[bY]at h3;omega
noncomputable abbrev Uk:Stmt:=top 13
theorem gI:?q ?j8 ?j8 (Au Uk):=Bh
theorem gR[?u](F:Er K ?sA ?sA Uk f fd)[?t][?sY][?m0]:?w4 ?j8 Xx:=by
 refine ?uE gI;obtain⟨a,xs,k,p,n,rfl,hL,kq⟩:=h;refine(?wA (Ly (An Cz hr (Aa ?g (Aa ?n ?W))) (Ly (An Fo hr ?fU) (Nq (Le Iy ?v Ak ?m)))));refine⟨_,rfl,_,rfl,_,rfl,a,?d p,?d p,k,xs,rfl,hL,rfl,_,rfl,?_⟩;ext hX
 . refine⟨_,rfl,_,?d n,rfl,rfl,_,rfl,?_⟩;refine cC rfl ?_;refine ?pP
   have e2:?rH=! ?I (?J n=?J 0):=by
    unfold Mq;rw[e];by_cases z:n=0
    . subst z;simp
    . simp[z]
   rw[e2]at kq;exact kq
 . have e2:?rH=false:=by unfold Mq;simp[e]
   rw[e2]at kq;exact kq
noncomputable abbrev Fy:Stmt:=Ex ?mA 4
theorem Ea:?q [?c6,"i","first","j","at","quotient"] ?qM (Au Fy):=Bh
theorem Pg[?u](F:Er K "shrink_row" "Stairs.shrink_row" Fy f fd)[?t](Ct:K5 P w K mg ?e Ad ?d9 ?gW 3 (?uO Kg)):By P w K mg ?e Ej 4 f fd ?qM (?uO Kf):=by
 refine ?uE Ea;obtain⟨H0,p,q,M,n,W,t,cnt,s,i,f,rfl,x,hi,hf,hif,hds,ok,k⟩:=h;obtain⟨qQ,qP,sm3⟩:=x.sm;obtain⟨r,b,lx,_⟩:=x.ex;obtain⟨dx,fs,hp,l1,l2,l3,l4,l5⟩:=lx.ob
 refine⟨_,(Ai (B8 qb6 rfl (aI ?f ?b5 (?tT ?n (?wK (?xB ?a2)))) (?uY Ea.nd) (Af (?uT Ea.nd (?x3 ?a2 ?v))
  (Af (Av (i:=5) Ea.nd (Bq Kq (?x3 (?vE ?a2) ?A) (?x3 (Ba ?L ?a2 ?v ?w) ?A)))
  (?xH (?tZ Iy ?aO) (Bx (Dh ?g ?dJ Ct hr (?xB (D7 (Aa Np (Aa ?i (?tT ?v (Mn Ht ?aO))))))))))))),?_⟩
 refine⟨_,rfl,_,rfl,p,Ad,dx,fs,_,rfl,hp,?dJ,?qQ,l3,q,_,rfl,?p (.of x.st),(f:Int),(cnt:Int),?n1,O9m,?_⟩;rw[show(((cnt:Nat):Int)-?sB).toNat=cnt-f by omega];clear lx hp l1 l2 l3 l4 l5;refine Ck (lo:=(f:Int)) (n:=cnt-f) (fun d σ G=>Qt fun o3 o4 o5=>σ=[?aP,?aN,iS f,o3,o4,o5]/\?uZ G (?hM)) ⟨?l,?l,?l,rfl,x⟩ ?_ ?_
 . rintro d σ G hd C3;revert σ;refine vF ?_;intro o3 o4 o5 y Ei;obtain⟨r,b,lx,_⟩:=y.ex;obtain⟨dx,fs,hp,l1,l2,l3,l4,l5⟩:=lx.ob;obtain⟨as,xa,na⟩:=lx.rw;obtain⟨h1,h2,h3⟩:=hds ?b3 O9m O9m;have bo:=ok d O9m;have ej:?sB+((d:Nat):Int)=((?jI:Nat):Int):=O9m
   rw[ej];have hji:f+d≠i:=O9m
   have er:(?hM).1 ?b3=s.1 ?b3:=X5 t i f s d _ hji;obtain⟨ci,_,mS,_,lS⟩:=?mI;obtain⟨cj,_,ZU,_,hcj⟩:=?u7 ?lA (show f+d<n by omega);rw[er]at hcj;refine⟨_,rfl,p,Ad,dx,fs,_,rfl,hp,?dJ,?qQ,l3,_,rfl,q,_,_,_,rfl,rfl,.of y.st,Bp (Cm O9m),?_⟩;refine⟨_,rfl,p,Ad,dx,fs,_,rfl,hp,?dJ,?jG,l1,_,rfl,r,_,_,_,rfl,rfl,.of xa.2.1,Bp mS,_,rfl,ci,_,_,_,rfl,rfl,lS,?mF,_,rfl,p,Ad,dx,fs,_,rfl,hp,?dJ,?jG,l1,_,rfl,r,_,_,_,rfl,rfl,.of xa.2.1,Bp ZU,_,rfl,cj,_,_,_,rfl,rfl,hcj,?mF,_,_,rfl,rfl,Vr.of9 O9m h3,?_⟩;have hsx:∀G',?uZ G' (Lat.addS i ?b3 (-(?h7)) (?hM))->?uZ G' (?rG t i f s (d+1)):=fun G' z=>z.re (by rw[Lat.shrS,er]);have hq:(?h7).natAbs<2 ^ big:=Lat.fdiv_small h2 (?d7 i _ hi h1);refine As (?x5 [?aP,?aN,iS f,?c (?d (?jI:Int)),?c (?d ((t ?b3:Nat):Int)),?wE (?h7)]) ?_ fun key=>?u8 ⟨by rw[←qg8 _ (Int.le_of_lt h2)];rfl,rfl⟩;ext dQ;generalize ?h7=qq at hsx hq;ext a6;refine ?mS
   . refine⟨_,rfl,p,dx,fs,rfl,hp,l4 _ ?eI,_,rfl,_,rfl,_,rfl,_,rfl,?bB,fun T1 hT1=>?_⟩;have s1:?h G (?iY):=?y hT1;have hT:Rep K (?iY) (?k T1) (QT (?nQ)):=⟨T1,_,rfl,?cT,⟨_,_,rfl,rfl,_,_,rfl,rfl,_,_,rfl,rfl,_,_,rfl,rfl,rfl⟩⟩
     generalize ?iY=G1 at s1 hT;refine⟨p,?k T1,Ad,r,b,_,n,W,_,_,?nQ,rfl,?o rfl,lx.keep s1,hT,⟨hi,O9m,fun z=>hji z.symm,fun c hc=>Q0 (by rw[qc4];exact hq) (?d7 _ _ O9m hc) ?aJ⟩,⟨O9m,hi,hji,fun c hc=>Q0 (by rw[qc4,qc4];exact hq) (bo.2 _ _ hi hc) ?aJ⟩,O9m,O9m,fun r' b' G2 sx n1 n2 z=>?_⟩;exact⟨_,_,_,rfl,hsx _ (y.redo s1 sx n1 n2 z)⟩
   . have h5:qq=0:=?iV
     subst h5;exact⟨_,_,_,rfl,hsx _ (y.re (Lat.addS_zero _ _ _).symm)⟩
 . ext bE;refine vF ?_;intro o3 o4 o5 y Ei;exact k _ y
end
mutual
#check(4,[?a,?b,some,.ref,base,.int,Same,(fun key=>?_),(by rfl),none,(pv 0),rS a,.lst,rS p,(pv 1),.inl,T.cl_Work,spot,(pv 2),Same.new,Rep.same,(?s7 Ed ?A),T.cl_Stairs,.(by decide +kernel),(pv 3),.(by decide),(fun _ _=>rfl),.tup,W.findIn,FnScope,(?s7 Ga (fun _ _ _=>rfl)),F.okZ,fun Dk A outer s H vs Q E hr h=>?_,putF,rS D,∀(T:?n2),a,∀{f:Addr}{fd:FuncData},a,"shape",.ins,(i:Int),(?s7 Hr (?m4)),.(by infer_instance),"self",(?s8 Az ?k),rS tp,rS la,rS ga,"table",.(by exact nomatch hl),?c ?j,(k:Int),iS k,V.ref,?c (?j2),(pv 4),(Ay (K:=K)),[?Q],if_neg,T.n_len,(Aa ?o Ae),.inr,cK ms,"width",s1.trans,Cu.nd,(Be (K:=K)),(Bd (K:=K)),.(by ((repeat (first | rw[Aq,?eA] | rw[Aq,?fU]))<;>first | rfl | assumption)),rS C,R.same,rS p1,?u4 ?g0,V.int,Dr xs (?b9),(by ext x),T.na_Stairs_rows,?c o,⟨_,rfl⟩,(Bk _),?c (?f ?kE),l.prog,B7 (?aW),Dm.nd,T.cl_Lines,.(by simp),g.trans,?c (?f ((?d4:Nat):Int)),(?z),T.n_range,(by kernel_rfl),.of Ab,(fun _ _ _ _=>Ce),(?d Ag),(?vA ?s),(?vT ?R ?o),(?vA ?bA),Nc.nd,?Y+1,(pv 5),Nat->?d6->St->Hp->Prop,"turn",?f (?g7),T.cl_Book,W.keepIn,rS nn,(?cK),Lat.Mat × Lat.Mat,"thing",rS ta,Nat->St->Hp->Prop,"__init__",List,(?u0 ?s),(?vT ?R ?s),.(by ext cF),fun D hD=>?_,?c0 O9m,(?vA ?R),R.same.seq,.of ?g1,T.na_Work_numbers,"blend",T.na_Work_table,[(pl,1)],small,rS tl,SameX,Dr xs 0,T.n_dict,"law",(?d Ad),if_pos,"left",⟨_,rfl,?_⟩,H=H',?f (j:Int),(?d Ah),(pv 6),.(by refine Kc ?_;intro sq),.(by simpa using h1),?a5 (fun z=>?k0 (z▸hm) ?aM),Nat->Int,(?vA ?k),K.lookup,spot+1,"pieces","_law_script",?u4 ?eY,t ?r,s.1 i (?cO),?p rfl,T.na_Work_left,(Aa Ak Ae),(Ux ps),(w+n),s.1 ?r (?cO),mainGlobals,x.same,(?d4),qa0 hi,T.na_Stairs_starts,(Mr (K:=K)),?u3 us,Reps.same,Dr xs k,rS tg,?bN V,?c 1,(?vA ?a2),.(by obtain⟨dx,fs,hp,l1,l2,l3,l4,l5⟩:=lx.ob),(?f3 hv).1,R.free,?c (?f ((?aL:Nat):Int)),[?Q,?jR,?hJ],g1.trans,?d T1,fun a ha=>?_,xs.getD,F5 xs (k-1),"number",Lat.one,[?bJ],(Ho m f),SameX.upd,Lat.turnL,R2.same,?v6 H a,"place",rS fi,(?d Ax),"right",qa8 _,?d D2,[?Q,?bC],R3.same,.cons,(show spot<n by omega),[?Q,"i","j","one",?gS],(?gR),Aj DH.symm,l4 _ ?aM,Cq.nd,"papers",as.map ?a0,(Aa ?k ?a7),[?Q,"i"],?c7 rfl,s2.trans,?u4 ?Y,T.na_Work_right,.(by obtain⟨tva,HV,HK,hpa,l1a,l2a,xR,zN,VH,ZM,l7a,_⟩:=x.ob),∀(Cv:Has P w K mg ?e ?r7 ?eM 2 (Hv K)),a,.(by rw[?nD]),.(by rintro σ G C3;revert σ),∀{α:Type}{P:?bN α->Prop},a,∀(us:?bN α),a,W.codeIn,upd G e (.dK (cK ?bZ)),[?V,?aA],Q1 ?_,Str.empty,?eB s3,[?L,"k",?bJ],?s8 xa.row hi,W.fnOf,(?s2 ?bT),PySem.W.plainGet,(?vE E5),σ'=[?n,none],(?rY Mh),(m:Int),fun a=>a=nm,?dN (SameX.refl _ _),⟨rfl,?_⟩,SameX.of,qa2.mp,(?dI).length,(?t UX).turn,(?dF),?d ga,(Lat.addS i j 1 l),?t hT1,?c0 (by rw[qa4];omega),?a5 (by omega),.none,"is_chain",i+1+j,PySem.W.makesIn,"is_shape",Option,"chain",W.nsIn,(?fZ).length,[?L,?bJ,"bound"],R.same.trans,?t hD,[?f g,?f a,?f b],"first_misfit","row",(RG i j g a b f r),[?Q,"k"],PySem.W.plainOver,?a5 ?aM,?aX g1,"bases_of",(?d F9),(?nQ),F5 xs k,(w:Int),xa.2.1,(?d a),(D:Addr),?dE g2,?fH L2.V,Sv d f l r,?qQ f k0 i,"parts_of","diagonal",a=q\/N a,.func,"is_chain_of_some_level","border_table","__setattr__",.of et,[?cM],(?iI),"border",[?L,"k"],(k0:Int),g4 _ _ Ev,?u s1 hL,(Az (K:=K) (Az (K:=K) ?s)),PySem.W.hasDictIn,"lifts",(?rY Kg),?uL H,"other","stepped",(?u0 ?bA),?sR (?pO "object.__setattr__"),(?c M),((spot:Nat):Int),((?cO:Nat):Int),zK _ _ Ev,(top 63),?t hp,.(by refine ite2 (fun h1=>?_) (fun h1=>?_)),.(by obtain⟨Os,K0⟩:=T.x_LEVELS),.(by refine Hq ?aZ ?_),.(by replace hrep:=hrep _ rfl),.(by exact fun z=>nomatch z),.(by refine Hq (?aW) ?_),(?qU,s.2),fun E hE=>?_,?uB G l,"share",ms.getD i (0,0),(Ux ps).length,[?L,"k",?e6,?hN,?j7],upd H4 p (?sP E),(pv 7),?tO H3 [?jQ,?cB,?j2,?f ?q9],[?Q,"i","j"],"backs",List.range,?tO G3 [.str "minus",?f ?gX],?u Mv hrep,"loops",σ'=[?n,iS ?r,iS i,?u4 ?gY,?u4 (?cV),?u4 (?cP)],[?d c1,?d c2,?d c3],(gp:Int),?uL G1,fun C hC=>?_,(TA.of R hcl).same,RA _ _ _,?tO H [?jQ,?j2,?cB,?f 1],"holes",(z▸R.free),.(by simpa using h4),(us:?d6),(?cL,?d P),"step","_law_shape",(x.same.trans s1).free,"spot","many",decide,"put_in_order",(?fZ).getD,.ad i ?r (-kk),?rW ?n6,T.na_Book_pieces,T.na_Lines_rows,(E9 Ak),[?i0,?m7],s1 _ _ hp,?d ta,?c (?f (n:Int)),σ'=[?n,iS i,?u4 ?gX],upd (upd G1 CJ (.own L')) L' (?M Ag CJ []),fun a ha z=>?_,fun r' b' G2 sx n1 n2 z=>?_,T.na_Work_width,(t:?lV),T.n_list,Str->?fH Value,U m M l r,T.na_Lines_backs,upd H5 p (?v5 E),g3.trans,(s:?bI),[?L,?fI],[?Q,?bJ],s0.free,?d la,(as:?qX),[?Q,?i4,"i"],x4.tup,?f ?N,"shrink",W.isFn,fun L3=>L3 _ _ ?n6,?a8 rfl,"gauges",?tH O9m,VL _ _ Ev,R2.same.free,fun m hm=>?_,?tO H [?jQ,?f i,?f ?r,?f (-kk)],qa6 (F4 _ _ _) Jv,.(by rw[oR];exact h3q),(st:Int),T.na_Stairs_backs,Ho m ?qF,[?V,?aA,"lines"],R4.same,Rows.nil,x3.tup,(pv 12),R2.same.trans,(Ai S5),Dr xs ?Y,.str "add","rows",fun z=>?_,qa0 O9m,nb a ha,.(by rw[qb5];rfl),(K w.params).In,"_law_holes",⟨T1,_,rfl,?b2,⟨_,_,rfl,rfl,_,_,rfl,rfl,_,_,rfl,rfl,_,_,rfl,rfl,rfl⟩⟩,K3 xs ms i,absurd,?cP / ?cV,"straighten",?i8 i 0,R.push,.(by rw[Bv];omega),rP.same,sBB.trans,"put_in",Y1 ?r i (?cV) (?cP) g a c s,Qj xs (?b9),?rW ⟨rfl,s1⟩,g _ _ hp3,"told",(z:Int),.(by rw[Ab];rfl),.(by split<;>omega),"meet",.of x.nu,fun(k:Nat)=>N8 xs ?Y ms,.(by obtain⟨tv,dx,fs,hp,l1,l2,l3,l4,l5,l6,l7,hrep⟩:=x.ob),∀(Bt:Has P w K mg ?e ?m3 ?gJ 2 (Dq K)),a,.(by refine(?sX p)),.(by obtain⟨r1,b1,r2,b2,lx,ly,f1,f2,f3,f4⟩:=x.li),.(by refine⟨P,_,rfl,?p (.of hP),?_⟩;rw[qa4]),.(by rcases ho with⟨_,q⟩|⟨_,q⟩<;>cases q),.(by refine Hn ?l8;intro sq),.(by obtain⟨as,xa,na⟩:=lx.rw),.(by obtain⟨qQ,qP,sm3⟩:=x.sm),.(by refine Pn ?_;intro o1 y Ei),?eS ?c5 ?c5 (Ip S3) (Gj S3) (Au S3) ?fC vI VN UU vQ pZ vO,fun c hc=>hb.1 c O9m,?v6 H0 a,x.fr.2.2.2,lx.keep s1,a=nm\/a=r2'\/a=qU,⟨[],rfl,rfl,?jK hD,?j,rfl⟩,fun F hF=>?_,upd G' p (?B [?f i,?bD]),R.same.free,x4.right,Qz Ll T Ti Xf,?tH h1,?p7 (z-k0) (?aK 0),fun H1 s1=>?_,"is_straight","check_level","Stairs.put_in",st _ _ (?v4 (?aH _ _ e)),wR _ _ x.nu,(VI m f).set i (?f g),(?qE).length,ite2 (fun h4=>?_) (fun h4=>?_),[?l,?Z,?S,?T,?U,?aR,?aY,?bG,?c1,?d5,?dS,?I,ZL,zL,ZK,xB],?uL B2,fun p=>Mq xs k p.1 p.2,.ad j i ?q9,?t (o:=.dK (cK q.2.1)) h1,(?dH pl.toNat []).length,?dZ ?aP (?dZ ?aP (?dZ ?aP (?dZ ?aP (.nil)))),.(by rw[J0]),.(by have:=pl 0;omega),(o4:?fH V),s1 _ _ hb,upd H1 B (?m (bs.map ?a0)),(z▸y.mq),"product",Nat->Nat,g2.trans,∃ps,ls[i]?=?c ps,"without_borders","_law_rounds_hold",s3.trans,((0:Nat):Int),?sN xs.length,"places_of_level",fun _=>rfl,"Stairs.shrink",fun a3 h3=>?_,(?pR,?d Lv),o3' g' a b sh,.(show((k.toNat:Nat):Int)=k by omega),xb.there.2,tI xs[i],(C:Addr),lx.nn a ha e,⟨_,rfl,?z,?z,?_⟩,(spot<=i),g2 _ _ HH,(?jN s67),"Lines.__init__",sp.trans,"Work.straighten","numbers",["parts"],VI z (?qQ f k0),(?c ?g0),(dU K Ax),(us.length:Nat),?g6/\?hA,(?mQ:Int),(ZL zL ZK xB:?fH V),fun hS G1 s1=>?c9,.(by simpa using h2),(?dK,Lat.one),⟨?j,rfl,x⟩,?c (?bD),?qY w M P,fun G' z=>?_,i<ms.length,Ff K mg Ag Ad Ah Ax,"Work.share",((i:Nat):Int),ok.hd j O9m hj2,⟨rfl,rfl⟩,"Book.__init__","_law_cell_at",fun hnd o=>?_,"Lines.turn",Lat.ChainTo,"Work.put_in_order",.(show((k+1:Nat):Int)=?b9 by omega),(xs.length:Int),"_law_k",m4 _ ?aM,?rW ⟨rfl,fun a ha=>by rw[Aj ha,Aj ha],Ab⟩,(o2 o3:?g5),b*f j / g,fun HC=>?_,(top 69),.(by have:=r.length;simpa using this),.(by rw[Aj n];exact e),"numbers_at","Book.holes",Mu B G3 G4,(?hK i).map,"Stairs.meet",(?m0 RJ),[?d D,?d L'],"is_table",Lat.insT,.of y.st,?aH _ _ hp,(?eY-(?N+1)).toNat,Heap->Prop,fun g' a b G' sh z'=>?_,x.keep s1,?v6 H1 a,"_law_shape_by",H4 a=?aO,(?jU).2.1,(us':?d6),G5 c=?aO,.(by cases z),?H ?V (?a0 E) fs,?s9 G' s',(?oA).length,.(by simpa using h3),"chain_of",na a (ma a ha),fun i=>r.1 (k0+i),fun pC=>?_,upd H5 p (?tM Lf),"lifts_of",.ad i j 1,ZM _ ?aM,fun a1 h1=>?_,upd G1 c (?t4 ?N),nb a (mb a ha),(σ'=?qJ),JO _ _ Ev,?uL B,.of x.st,Int.dvd_of_emod_eq_zero,q.1.toNat,"_law_holes_are",[none,?d7],(z.symm▸y.mq),.(by rw[qc3,hcl];rfl),qa6 (F4 ..) Jv,?u9 H',"add_faces",upd H1 l1 (?m [?f 0]),Ho m (wQ i j g f),T.na_Book_levels,?gY<=?jF,(e▸ha),List.replicate,fun tp htp=>?_,fun c hc=>?_,ys.length<=40,upd G p (?B [?f i,v]),(z.same RJ).there.1,fun P H2 nP s2 hP=>?_,Ph J8 T Gi Ie,"Lines.blend",T.n_enumerate,(?f3 hq).1,fun T1 hT1=>?_,[?n,o1],[?fQ,?aA],.of xp.2.1,us++[?d t],Lat.Shares,.builtin,"Work.step",h.Ns ?cW mg,"levels","is_list_of_few",(if ?g0<?mS then ?g0 else ?mS).toNat,(I ?r s),(?jU).2.2,fun j hj1 hj2=>?_,xb.there.1,upd H1 D (.dK []),(?aX g4).turn,(P:Addr),Iu.binds (ps:=?dD) ?E,(?fV).trans,J8.binds (ps:=?e1) (?s7 PL (fun _ _ _ _ _=>rfl)),(ls:?bN (?bN Bs)),l6c _ ?aM,upd (upd H2 qT (.own p)) p (?M Ad qT []),base.Ns ?cW mg,s3 _ _ hC,(-(?nJ)),"_law_hole",m5 _ ?aM,Ll.binds (ps:=?dX) ?v,⟨rfl,fun i v p e=>?r1⟩,?H ?c8 (?a0 L') (?oA),fun k=>if k=i then g else f k,Mv.seq hq,Lat.moveS i ?r s,(aG K Ax),[?l,?aI,?aG,?n,?a1,?I,rS E,o7,o8],⟨_,?jT⟩,⟨hW.1,fun i v ps e1 e2=>?_⟩,Lat.downS t i s d,(Ao (?v4 hD) R3.free).symm,?t (o:=.dK (cK q.2.2.1)) h2,?fJ K ?cW s,Lat.numAt,⟨O9m,O9m,O9m,fun c hc=>BV ?aZ ?aZ⟩,"is_part",?dH ?oU [],fun x a=>s.1 x (w+a),"start_of",xs.take i,?bN Addr,Lat.beside,(E9 ?hG),fun a2 h2=>?_,.(by simp at e),fun H1 s1=>?c9,⟨rfl,fun i v ps e=>?r1⟩,"shrink_row",l6 _ ?aM,(?f3 hx).1,"flipped","filling",hW.2 i v ps e1 e2,.(by rw[qf7,hq];refine Cr.snoc ((rY.same g4).put (?gL)) (Me.put ?_ (?gL));exact⟨t',a1,a2,a3,rfl,⟨(?aX g3).free ht',g.free h1,(?fV).free h2,(?aX g2).free h3⟩,Ab,((g2'.trans yN).trans tT) _ _ Ab,(yN.trans tT) _ _ Ab,tT _ _ Ab⟩),.(by have yN:=?t (o:=.dK (cK q.2.2.2)) h3;have g3:=?lW yN;refine⟨?aT,fun t' ht'=>?_⟩;have tT:=?t (o:=?B [?f q.1,?d a1,?d a2,?d a3]) ht';have g4:=?iT tT),.(by obtain⟨r',b',ly,_⟩:=y.ex;obtain⟨qT,fs',TN,_,_,_,l4',_⟩:=ly.ob;refine⟨_,rfl,p,qT,fs',rfl,TN,l4' _ ?aM,_,rfl,_,rfl,_,_,rfl,rfl,?_⟩),.(by refine⟨sF _ _ R.at,?fA,cs++[F],?jV,?oY,?_,_,rfl⟩;refine ?k4 hF sF ?_),.(by rintro i x zs τ G1 hx ⟨cs,rfl,hcl,R,o1,rfl⟩;have hi:i<n:=by have:=?r6;rw[qa4,xa.1]at this;exact this),.(by obtain⟨i,hi,rfl⟩:=qj0 ha;obtain⟨z1,z2,z3⟩:=R.row i _ (?cZ)),∀(Cg:K5 P w K mg ?e Ad ?r4 [?Q,"i","first"] 4 (?rY Kf)),a,.(by exact⟨?dV,fun D hD=>?rW ⟨D,rfl,?fN,hD,Ab⟩⟩),.(by obtain⟨tvc,dxc,fsc,hpc,l1c,l2c,l3c,l4c,l5c,l6c,l7c,_⟩:=z.ob),.(by obtain⟨c,_,ec,_,hc⟩:=?eR;rw[ec]at hx;cases hx),∀(Ct:?v1 Ad),a,∀(Kw:Has P w K mg ?e ?lU ["one",?gS,?aA] 3 (Re K)),a,.(by rintro zs τ G1 ⟨cs,rfl,hcl,R,_⟩;rw[qa4,xa.1]at hcl),.(by revert σ;refine VD ?_;intro us ZL zL ZK xB g Ev rU Ei),.(by obtain⟨cs,_,_,R,_⟩:=hz;exact ?bU (.of xa')),∀(Fp:Has P w K mg ?e ?lA ["k","bound"] 3 (Jg K)),a,.(by rw[qi7 (by rw[qa4,xa.1];exact hi),qa4,xa.1];omega),.(by rw[qi7 (by rw[qa4,xb.1];exact hi),qa4,xb.1];omega),.(by refine⟨_,rfl,la,lu,rfl,?p hlq,?_⟩;rw[YD]),.(by first | exact Or.inl rfl | exact Or.inr rfl),.(by have g2':=?qO),@(qw7 ?a ?h ?_),@(key _ _ ?a),@(Aa ?a (Aa ?b Ae)),@(?a K Ag Ad Ah),@(fun _ _ _ _=>?a),@(fun F=>?a F T ?b),@(fun F=>?a F T),@(Bc ?a3 ?a6 qh0 ?a),@(?H ?c8 (?d L') (?H ?V (?d ?a) fs)),@(?p ⟨rfl,_,.of ?a⟩),@(.of (?a _ _ ?b)),@(fun i zs τ G1=>Es fun cs=>B6 (zs=cs.map ?a0) (cs.length=i) ?a (Es fun o1=>τ=[o1,?aJ])),@(fun _ _ _ _ _ _=>?a ?b),@(?a (K:=K) ?b),@(SX Ad H0 ?a p q M n W t i ?b),@(Eh (D6 (An ?a hr ?b))),@(?a K ?b=true),@(Cp (K:=K) (a:=r) (xs:=?e7) ?a ?b (fun i zs τ G1 _ hz=>by ext rO) ?_ ?_),@(?B [?bD,?d lp,?d gp,?d ?a]),@(El (fun σ' H'=>σ'=?a/\?cA) ?_ ?j5),@(qj1 X G ?a),@(Cw K ?a ?b),@(Av (i:=2) ?a ?b),@(.frz ?a (.dK (?a9))),@(⟨?a,rfl,?z,?z,?z⟩),@(?C K ?a ?b=?X),@(Ek (K:=K) ?k ?a),@(upd H1 pr (?B [?d bx,?d ?a])),@(us.length=?a),@(show j≠?a by omega),@(?M Ah dx (?H ?V (?d ?a) fs)),@(fun i j c hi hj hc=>fM (?a i j hi hj) (?b j c hj hc)),@(?c (?c ?a)),@(?F ?a ?G),@(Rep K (?a) ?f6 (QT ?b)),@(qt9 X G ?a),@(Ci ?i ?b0 ?a),@(⟨_,rfl,_,rfl,_,_,rfl,rfl,?a,rfl,_,rfl,?_⟩),@(⟨?a,_,rfl,?b2,rfl,_,_,rfl,_,_,rfl,rfl,?_⟩),@(⟨P,us,rfl,.of ?a,?d3 ?b r⟩),@(?eU K ?a ?eO=true),@(⟨_,rfl,_,rfl,_,rfl,c,_,rfl,?bU ?a,?l1⟩),@(fun a o e=>sx _ _ (Ao e ?a) (s3 _ _ e)),@(upd G1 F (?m (Ju (VI ?cU (s.1 i)) ?a ?b))),@(Bf ?a ?bP (An Mw hr (Aa ?b6 Ae)) ?aQ),@(?m (Ju us ?j (?c ?a))),@(upd (upd ?a dx (.own p)) p (?M ?b dx [])),@(Bx (Mo ?a ?q ?b hr)),@(⟨_,rfl,p,Ax,dx,_,rfl,?a,?bE,?b,?aW,?_⟩),@(K5 ?aS w K mg ?e ?a ?bX ?e1 2 ?eX),@(K5 ?aS w K mg ?e ?a ?bC ?dX 3 ?gQ),@(Es fun o=>τ=?a),@(By ?a w K mg ?e Ej 14 ?b fd ?gG (W6 K)),@(nN9 K ?a),@(by show(?a:Nat)<=sizeLine;decide),@(?g ?a (upd ?b p (?B [?f q.1,?f q.2]))),@(⟨O9m,O9m,O9m,fun c hc=>Q0 ?a ?b ?aZ⟩),@(vs d i ?a f l r hv O9m O9m O9m),@(Bp (Cm ?a)),@(Ap (i:=4) ?a),@(By P w K mg ?e Ej 6 f fd ?a (?b K)),@(By P w K mg ?e Ej 5 f fd ?a (?b K)),@(Av (i:=?a) G7.nd (Ba ?aE ?b ?y ?A)),@(?M Ax dx (?H ?gP (?d ?a) ?iE)),@(⟨_,_,⟨?a,Tf,Po⟩,?qC,?l5⟩),@(upd ?a T1 (?B ?b)),@(fun z=>?a ?b),@(DO _ _ ?a (s5 _ _ ?b)),@(Bf ?a ?b Ak ?aQ),@(?D ?a ?a4 (Au ?b)),@(Bx (Gn (K:=K) qd4 qg4 qg3 E8 ?a (Aa ?b Ae))),@(σ'=[?l,?Z,?S,?T,?U,?aR,?a,?b,none,none,none,none,none,none,none,none]),@(σ'=[?l,?Z,?S,?T,?U,?aR,?aY,?bG,?c1,?a,?b,none,none,none,none,none]),@(Dy (K:=K) (n:=2) ?i (Bm ?a (Bm ?b Dx))),@(Bx (Gn (K:=K) qd4 qq9 qq8 Uy ?R (?rX ?s (?a (K:=K) qd4 PySem.F.slot_list_pop PySem.F.type_list_pop EO ?R ?a7)))),@(σ'=[?l,?aI,?a,?b,none,none,none,none,none]),@(σ'=[?n,?a1,?c (?cB),?c (?f (f ?a)),?c (?f (f j)),rS P]),@(Ba ?aD ?a Ak ?A),@(By P w K mg ?e Ej ?a f fd ?a4 (?rY ?b)),@(Ai (Bx (Dh ?k ?w ?a hr ?b))),@(?c (?m ?a)),@(?c (?f ?a)),@(An ?a hr ?b),@(uu ?a (?s1 ?b) ?O),@(fun σ' H'=>σ'=?a/\?b),@(uu ?a (?s1 ?b) ?v),@(WX K Ag Ah H0 ?a p L R nm n w ?gW l r []),@(by obtain⟨g,_⟩:=hz;exact ?s5 g ?a),@(WX K Ag Ah H0 ?a p L R nm n w ?j ?b r ?dM),@(σ'=[?bK,?aJ,?a,none,none]),@(σ'=[?l,?I,?a,?b,none,none,none,none]),@(?a xs ?b z k0 L G f l r),@(fun j i=>Uw (?dH (?i8 j 0).toNat []) ((?dI).getD i ?a)),@(Ap (i:=0) ?a),@(LX H' Ag ?a r1' vP ?j n n ?b (fun a=>a=nm\/a=r2\/a=b2)),@(Cj (F8 (K:=K)) ?i ?iO Ez ?a),@(upd H6 ?a (?M Ah dx (?H ?dU (?d R') (?s3 E)))),@(By P w K mg ?e Ej 4 f fd ?a ?b),@(?g ?a H'),@(WX K Ag Ah H0 H' p L R nm n w ?j ?a ?fR ?dM),@(Q8 K H' tp nm r1 D1 D2 b2 z (?aL) k0 ?a l r),@(σ'=[?n,?cN,o2,?a,?b]),@(?c (.dK (cK ?a))),@(SX Ad H ?a p q (fun a=>?gA) n ?cU t ?b s),@(fV ?a w K mg ?e Ag ?dD 1 (?rY Mg)),@(Rep K H' (?d ?a) ?b),@(Rep K H' (?a) (dT (?c3) (?c3) ?dK)),@(uu ?a ?b (?s7 vN (fun _ _ _ _=>rfl))),@(?C K ?a ?gE=?gV),@(upd H2 b (?sI ?a)),@(LX H' Ag R r2 b2 ?j w w ?a (?eZ)),@(⟨?a,_,?r,_,rfl,rfl,Ab,?_,?c0 ?b,?nH⟩),@(σ'=[?l,?I,?T,?U,?eC,?dC,?S,?a]),@(K5 P w K mg ?e ?a ?bX ?e1 2 ?eX),@(K5 P w K mg ?e ?a ?bC ?dX 3 ?gQ),@(σ'=[?bK,?aJ,rS ?a,?n,o4,none]),@(uu ?a ?b ?E),@(s2 _ _ ?a),@(?M Ah dx (?s3 ?a)),@(?a ?b=none),@(⟨_,rfl,?a,rfl,?b,?_⟩),@(⟨_,_,⟨?a,Q3,N1⟩,?q3,?pE⟩),@(?fJ K ?cW ?a=?sR ?b),@(Aa ?a Ae),@(Ap (i:=?a) ?b),@(Aa ?k (?rX ?a (Ba ?aE (pv ?b) ?jM ?A))),@(H' ?a=?u3 ?b),@(Ai (Bb ?a)),@(Bq Ds ?a Ak),@(fun σ' H'=>E4 (?tZ i) (Dl K H' P ?fO) ?a),@([?n,?a1,?c (?cB),?u4 (f i),?u4 (f ?a),none]),@(Qt fun ?lQ ?iN ?iU=>E4 (?v2 L) ?a (J ?b t s)),@([?l,?aI,?aG,?n,?a,?b,o6,o7,o8]),@(Av (i:=3) ?a ?b),@(uu ?a ?b ?v),@(⟨_,.of ?a⟩),@(fun i ys τ G _ hz=>?uA ?a),@(Av (i:=?a) ?aC ?b),@(Cj Gq ?i ?c4 Du ?a),@(Ld (v:=?f ?a) ?i K0 ?aP),@(Bx (Dh ?R ?aV J5 hr (?vA (D7 (Aa Np ?a))))),@(Av (i:=?a) ?aU ?b),@(Ba ?aE ?a ?b ?A),@(B8 qb6 rfl (?sV ?a) (?vB 3 ?e5) ?b),@(Bc ?a3 ?a6 qh0 ?a),@(An Cv hr (Aa ?a ?b)),@(Aa ?o (Aa ?a ?b))])
noncomputable abbrev Nh:Stmt:=Ex ?h0 4
theorem Il:?D [?Q,"i","j","one",?gS,?e6] ?hI (Au Nh):=Bh
theorem i8[?K](F:Er K ?hB ?n3 Nh f fd)[?J](J5:?v1 Ag)(L5:?v0 Ag):?uK ?hI (?rY aF):=by
 refine ?sS Il;obtain⟨H0,p,L,R,nm,n,w,m,i,j,l,r,f,rfl,x,hij,hj,mn,mw,ok,k1,k2⟩:=h;obtain⟨qQ,qP⟩:=x.sm;ext eE;ext kN;obtain⟨p1,p1'⟩:=ok.p1;obtain⟨p2,p2'⟩:=ok.p2
 refine⟨_,(Af (?vK Il.nd ?b6)
  (Af (Av (i:=4) Il.nd ?bP)
  (Ai (B9 (?tR Iy (Bq Jo ?a2 ?y)) (Af (?vR (?vX ?s ?cS))
  (Af (Av (i:=5) Il.nd (Dh ?R ?aV L5 hr (?vX ?s (Aa ?y ?d8))))
  (Af (?vR (Aa ?s (?rX ?o (Mn Ht (Bq Kq (Bq op_mulX ?gU ?a2) ?gU)))))
  (Af (Kn ?gU (Ko ?R ?o Fh))
  (Ai (Kn (Bq op_mulX (Bq Kq ?y ?gU) ?a2) (Ko ?R ?s Fh))))))) Bo)))),?_⟩
 ext P
 refine⟨_,rfl,p,Ah,HV,HK,_,rfl,hpa,?q,?bW,VH,_,rfl,nm,_,_,_,rfl,rfl,?kI,?tH (show i<m by omega),?_⟩;refine⟨_,rfl,p,Ah,HV,HK,_,rfl,hpa,?q,?bW,VH,_,rfl,nm,_,_,_,rfl,rfl,?kI,?tH hj,?_⟩;refine ?sE (?vH j);ext cE;refine(?sW p1);ext h2;rotate_left
 . have h2:f j%f i=0:=?bQ
   exact k1 (?oT h2)
 ext P
 obtain⟨dl,fl,hL,_,_,_,m4,_⟩:=lx.ob;refine ?rV (fun σ' H'=>σ'=(?vH j)/\∃r1 b1,?uB H' ?f8/\LX H' Ag L r1 b1 ?j n n ?f8 (fun a=>a=nm\/a=r2\/a=b2)/\?uX r/\?v6 H0 r1/\?v6 H0 b1)
 . refine⟨_,rfl,p,Ah,HV,HK,_,rfl,hpa,?q,?cR,xR,L,dl,fl,rfl,hL,?nG,_,rfl,_,rfl,?aT,?pI⟩;have s1:?g H (?hV):=?f9;have hT:?sT ?hV (?oK):=?jY
   generalize ?hV=G1 at s1 hT;refine⟨L,?dF,Ag,r1,b1,_,n,n,l,_,?oK,rfl,?cQ,?kY,hT,?qR,?qR,O9m,O9m,?iL⟩;obtain⟨y1,y2⟩:=x.left lx ly f3 f4 s1 sx n1 n2 z;exact ?rW ⟨rfl,r',b',y1,z,y2,?i3 n1,?i3 n2⟩
 refine Hn fun H2 DJ=>?_;intro sq;obtain⟨r1',vP,x2,XO,ly2,f1',f2'⟩:=DJ;obtain⟨tvb,dxb,fsb,hpb,l1b,l2b,l3b,l4b,l5b,l6b,l7b,_⟩:=x2.ob;obtain⟨dr,fr,hR,_,_,_,m5,_⟩:=ly2.ob;refine qw7 (fun σ' H'=>T7 fun ?q0 (g a b:Int)=>K8 (?tZ i) (?pN (f i) (f j) g a b) (Dl K H' P ?fO) (?uM ?f8) (?uH L ?f8) (?uX ?fR)) ?h ?_
 . refine⟨_,rfl,p,Ah,dxb,fsb,_,rfl,hpb,?q,?eD,l4b,R,dr,fr,rfl,hR,?qB,_,rfl,_,rfl,_,rfl,_,rfl,?_⟩;refine⟨R,Ag,r2,b2,_,w,w,i,j,f i,f j,r,_,rfl,?cQ,ly2,O9m,O9m,O9m,O9m,O9m,p1,p2,p1',p2',ok.br,fun P g a b G fr kp hT sh z=>?_⟩;obtain⟨y1,y2⟩:=x2.right XO ly2 f1' f2' f3 f4 fr kp z;exact ?rW ⟨P,g,a,b,rfl,sh,hT,y1,y2,z⟩
 refine Aa9 fun P g a b H3 sh hT3 x3 zM ly3=>?_;intro sq;obtain⟨tvc,dxc,fsc,hpc,l1c,l2c,l3c,l4c,l5c,l6c,l7c,_⟩:=x3.ob;obtain⟨dl3,fl3,hL3,_,_,_,m6,_⟩:=zM.ob;have g0:=sh.pos;have lg:g.natAbs<L9:=qb8 (Nat.le_of_dvd (Int.natAbs_pos.mpr O9m) (qt7.mpr sh.dA)) p1';have lb:b.natAbs<L9:=qb8 sh.lb p1';have cb:∀z:Int,Vr z g:=fun z=>Vr.of9 O9m lg;have ek:∀z:Int,z.fdiv g=z / g:=fun z=>qg8 _ O9m;have lk':(?nJ).natAbs<2 ^ 18000:=qb8 (qh1 _ _) (A05 lb p2');refine ?rV (?vG (?uM (zJ i j g b f l)))
 . refine⟨_,rfl,p,Ah,dxc,fsc,_,rfl,hpc,?q,?cR,l3c,L,dl3,fl3,rfl,hL3,m6 _ ?aM,_,rfl,_,rfl,_,rfl,P,_,_,_,rfl,rfl,hT3,rfl,_,rfl,_,_,rfl,rfl,bW lb p2',_,rfl,P,_,_,_,rfl,rfl,hT3,rfl,_,_,rfl,rfl,cb _,_,rfl,?aT,?_⟩;rw[ek];intro T1 hT1;have s1:?g H3 (?hH):=?f9;have hT:?sT ?hH (?lK):=?jY
   generalize ?hH=G1 at s1 hT;refine⟨L,?dF,Ag,r1',vP,_,n,n,_,_,?lK,rfl,?cQ,zM.keep s1,hT,(?tF (by rw[qc4];exact lk') (ok.bl.2.1 _ _ O9m hc)),(?tF (by rw[qc4,qc4];exact lk') (ok.bl.2.2 _ _ O9m hc)),O9m,O9m,?iL⟩;obtain⟨y1,_⟩:=x3.left zM ly3 f3 f4 s1 sx n1 n2 z;exact ?rW ⟨rfl,iY (s1.seqT hT3) (s1 _ _ hL3) sx,y1⟩
 refine IT fun H4 hT4 x4=>?_;intro sq;obtain⟨tvd,dxd,fsd,hpd,l1d,l2d,l3d,l4d,l5d,l6d,l7d,_⟩:=x4.ob;refine⟨_,rfl,P,_,_,_,rfl,rfl,hT4,rfl,_,rfl,p,Ah,dxd,fsd,_,rfl,hpd,?q,?bW,l5d,_,rfl,nm,_,_,i,rfl,rfl,x4.nu,J3 (?k5),?_⟩;have e1:?lE=(?jH).map ?aK:=nA O9m;have x5:=x4.num (ns':=?jH);rw[←e1]at x5;have hT5:Dl K (upd H4 nm (?m (?lE))) P ?fO:=Ad7 hT4 x4.nu;refine El (?vG (WX K Ag Ah H0 H' p L R nm n w ?j (zJ i j g b f l) ?fR (?jH))) ?_ fun L3=>L3 _ _ ⟨rfl,hT5,x5⟩;refine IT fun H6 hT6 x6=>?_;intro sq;obtain⟨tve,dxe,fse,hpe,l1e,l2e,l3e,l4e,l5e,l6e,l7e,_⟩:=x6.ob;have lA:(f i / g).natAbs<L9:=qb8 (qh1 _ _) p1';refine⟨_,rfl,_,rfl,P,_,_,_,rfl,rfl,hT6,rfl,_,_,rfl,rfl,cb _,_,rfl,_,_,rfl,rfl,(by rw[ek];exact bW lA p2'),_,rfl,p,Ah,dxe,fse,_,rfl,hpe,?q,?bW,l5e,_,rfl,nm,_,_,j,rfl,rfl,x6.nu,J3 (by rw[Bv];exact hj),?_⟩;rw[ek]
 have e2:(VI m ?qF).set j (?f (f i / g*f j))=(?p3).map ?aK:=by
  rw[nA hj];show VI m _=VI m _;refine P1 ?p9;unfold wQ Lat.put2;by_cases z1:c=j
  . subst z1;rw[?eA,?fB,?eA]
  . rw[?a5 z1];by_cases z2:c=i
    . rw[?c7 z2,?c7 z2]
    . rw[?a5 z2,?a5 z2,?a5 z1]
 have x7:=x6.num (ns':=?p3);rw[←e2]at x7;exact k2 g a b _ sh x7
noncomputable abbrev Rk:Stmt:=top 67
theorem Cu:?D [?L,"k",?e6,?hN,?j7,?i5,?aA,?mL,"turned_loops","turned_gauges","fillings",?kD,"i",?dJ,?r8,"loop"] ?hE (Au Rk):=Bh
theorem eF[?K](F:Er K ?g8 ?g8 Rk f fd)[?J][?rL][?eF][?kL](Mx:Has P w K mg ?e ?oE [?L,"k",?fQ] 3 (aD K)):?uK ?hE (Vu K):=by
 refine ?sS Cu;obtain⟨a,tp,nm,r1,D1,D2,b2,vl,vg,xs,k,z,k0,w,L,G,f,l,r,rfl,hL,Jv,hw,hvl,hvg,x,hz,hkz,hkw,hf0,bl1,bl2,bL,bG,kq⟩:=h;obtain⟨la,lu,rfl,hlq,YD,_⟩:=Hk hvl;obtain⟨ga,gu,rfl,_,_,_⟩:=Hk hvg;have hm:?d4<=40:=?jD;have hwl:w<=40:=by rw[hw];exact ?jD
 refine⟨_,(Af (?vO 5 (?s2 (?vA ?y)))
  (Af (?vO 6 (?s2 (?vA (?u5 Bt ?e8))))
  (Af (?vO 7 (Bq (U2 (K:=K)) ?bO (Bq NZ (Hh ?cS) (Bq Jn ?bA (?s2 (?vA ?bO))))))
  (Af (?vO 8 (?u5 Kw (Aa (?vW ?bO ?b7) (?rX ?y ?cD))))
  (Af (?vO 9 (?u5 Kw (Aa ?bO (?rX ?a2 ?cD))))
  (Af (?vO 10 (?u5 Cv (?rX ?bO (?vV (?vA ?bO)))))
  (Af (?vO 11 (Hh Ae))
  (Af (B8 qb6 rfl (S6 (K:=K) ?i ?pG (?vA ?hG)) (?tW (?vB 12 ?aC) (?vB 13 ?aC)) (Af (?vO 14 (Yi (?tR Et (pv 13)) Ix (?u5 Mx (?vC (Bq Ds ?o Ak) 10))))
  (Af (?vO 15 (?u5 Mx (?vC ?o 8)))
  (Ai (?tT (pv 11) (D7 (Aa (pv 13) (Aa (pv 15) (Aa (An Mx hr (?vC ?o 9)) (?vA (pv 14)))))))))))
  (?vE (pv 11)))))))))),?_⟩
 ext P
 refine ?rV (fun σ' H'=>?tU none none/\?cA)
 . ext rS;exact ?iA
 ext cE;refine ?rV (fun σ' H'=>?tU ?aY none/\?gR)
 . refine⟨_,rfl,_,rfl,a,k,xs,rfl,hL,O9m,fun P H1 nP s1 hP=>?_⟩;ext kO;exact ?kB
 ext kQ;refine ?rV (fun σ' H'=>Es fun(nn:Addr)=>E4 (?tU ?aY ?bG) ?e2 (?vD nn (?mN)))
 . have x1:=?cX s1;refine⟨_,rfl,tp,_,_,_,rfl,rfl,x1.tup,rfl,?aT,fun l1 hl1=>?_⟩;have s2:?g H1 (?p2):=?t hl1;have e2:upd H1 l1 (?m [?f 0]) l1=?u3 [?f 0]:=Ab;generalize ?p2=H2 at s2 e2;have x2:=x1.same s2;refine⟨_,rfl,_,rfl,tp,_,_,_,rfl,rfl,x2.tup,rfl,nm,_,rfl,?p x2.num,_,_,rfl,rfl,l1,_,_,rfl,rfl,e2,?_,?_,?_,fun l2 hl2=>?_⟩
   . rw[Bv];omega
   . rw[Bv];omega
   . rw[Bv];exact B7 (by simp;omega)
   have er:(?p7 (?kE-(((VI k0 f).length:Nat):Int)).toNat [?aK 0]).flatten=?l7:=by
    rw[Bv,show(?kE-?gK).toNat=z-k0 by omega];generalize z-k0=n
    induction n with
    | zero=>rfl
    | succ n ih=>rw[qi9,qk5,ih];rfl
   rw[er];have s3:=?eB (?t (o:=?m (?l7)) hl2);have x3:=x1.same s3;refine⟨nm,l2,_,_,rfl,rfl,x3.num,?b2,B7 (by rw[Bv,ql4];omega),fun nn hnn=>?_⟩;refine ?rW ⟨nn,rfl,(?aB s3).trans (?t hnn),?_⟩;rw[Ab,gU hkz]
 refine Xm fun nn H2 s2 hnn=>?_;intro sq;refine ?rV (fun σ' H'=>Es fun(tl:Addr)=>E4 (?tV none none) (?uL H2) (?uS tl (dT z ?cY (?dO z l.2 L))))
 . have x2:=?cX s2;refine⟨_,rfl,tp,_,_,_,rfl,rfl,x2.tup,rfl,_,rfl,?d D1,z,z,_,rfl,x2.lback,O9m,O9m,fun F as H3 hal R3=>?_⟩;refine⟨_,rfl,_,rfl,?d F,?iY,z,z,?d4,_,_,rfl,R3.rep hal,?u (?eB ?dY) hvl,O9m,O9m,O9m,?sQ bl2 bL,fun tl at_ H4 JK R4=>?_⟩;exact ?rW ⟨tl,rfl,R3.same.trans ?jJ,R4.rep JK⟩
 refine Xm fun tl H3 s3 JK=>?_;intro sq;have s23:=?eP;refine ?rV (fun σ' H'=>Es fun(tg:Addr)=>E4 (?tV ?d5 none) (?uL H3) (?uS tg (dT z ?cY (?dO z l.1 G))))
 . have x3:=?cX s23;refine⟨_,rfl,tp,_,_,_,rfl,rfl,?jL,rfl,_,rfl,_,rfl,?d r1,?f7,z,z,?d4,_,_,rfl,x3.left,?u s23 hvg,O9m,O9m,O9m,?sQ bl1 bG,fun tg at_ H4 htg R4=>?_⟩;exact ?rW ⟨tg,rfl,?jJ,R4.rep htg⟩
 refine Xm fun tg H4 s4 htg=>?_;intro sq;have mQ:=s23.trans s4;refine ?rV (fun σ' H'=>Es fun(fi:Addr)=>E4 (?tV ?d5 ?dS) (?uL H4) (?uS fi (dT w w r.1)))
 . have x4:=?cX mQ;obtain⟨_,du,ez,hdq,A62,_⟩:=Hk ?l4;cases ez;refine⟨_,rfl,tp,_,_,_,rfl,rfl,?j1,rfl,_,rfl,tp,_,_,_,rfl,rfl,?j1,rfl,D2,du,rfl,?p hdq,?_⟩;rw[A62];refine⟨?dW,w,w,_,rfl,?l4,O9m,O9m,fun fi at_ H5 zQ R5=>?_⟩;exact ?rW ⟨fi,rfl,R5.same,R5.rep zQ⟩
 refine Xm fun fi H5 s5 zQ=>?_;intro sq;refine ?rV (fun σ' H'=>Es fun ?g3=>B6 (σ'=[?l,?Z,?S,?T,?U,?aR,?aY,?bG,?c1,?d5,?dS,?I,none,none,none,none]) (?uL H5) (?v6 H5 D) (?vD D []))
 . ext rH
 refine Vs fun D H6 s6 nD hD=>?_;intro sq;have s25:=mQ.trans s5;have Ak4:=((?m0 s4).trans s5) _ _ hnn;have A39:=?u (s4.trans s5) JK;have A40:=?u s5 htg;have hL5:=?u s25 hL;refine ?rV (fun σ' H'=>z8 fun ?hZ ?mT=>B6 (σ'=?lH) (?uL H5) (H' D=?d2) (B5 H' us (?uE Iq k)))
 . refine(?v7 nn ⟨_,?s5 s6 Ak4⟩)
   let Bd2:?bL:=fun i σ G'=>z8 fun ?hZ ?mT=>B6 (σ=?lH) (?g H5 G') (G' D=?d2) (B5 G' us (?nR (?uE DA k)))
   refine Zk (K:=K) (a:=nn) (xs:=?mN) Bd2
    ⟨[],?j,?j,?j,?j,rfl,s6,hD,trivial⟩ (fun i σ G' _ hz=>by obtain⟨_,_,_,_,_,_,g,_⟩:=hz;exact ?s5 g Ak4) ?_ ?_
   . rintro i v σ G' p hv C3 hp
     and_intros
     ext rN;have hi:i<z:=by have:=?dA;rwa [Bv]at this
     rw[Cm hi]at hv;cases hv;have usl:?sN i:=by have:=rU.len;rw[qa4,qo2]at this;exact this
     have sp:?g G' (?l2):=?h1;have ep:upd G' p (?B [?f i,?bD]) p=?c (?B [?f i,?bD]):=Ab;refine⟨p,_,rfl,.of ep,rfl,_,_,rfl,_,_,rfl,rfl,?_⟩;generalize ?l2=G1 at sp ep;have g1:=?aX sp
     have rows:∀(t:Addr) (h w':Nat) (M:Lat.Mat) (G2:Hp),Rep K G2 (?d t) (dT h w' M)->i<h->∃tu b,SqL K G2 t tu/\iK tu ?N=?c (?d b)/\SqL K G2 b (VI w' (M i)):=fun t h w' M G2 hr hih=>by
      obtain⟨_,tu,ez,hq,hl,N2⟩:=Hk hr;cases ez;obtain⟨u,hu⟩:∃u,tu[i]?=?c u:=⟨tu[i],?jT⟩
      obtain⟨_,b,rfl,hb⟩:=N2 i u hu;exact⟨tu,b,hq,Bp hu,hb⟩
     refine ?rV (fun σ' H'=>Es fun(fl:Addr)=>E4 (σ'=[?l,?Z,?S,?T,?U,?aR,?aY,?bG,?c1,?d5,?dS,?I,?a1,?mY,rS fl,xB]) (?hR) (H' fl=?uP (if ?g7=0 then [] else W2 xs (k+1) (r.1 i))))
     . refine⟨_,rfl,rfl,_,rfl,?_⟩;ext h2
       . have e0:?g7=0:=?bQ
         refine fun fl hfl=>?rW ⟨fl,rfl,?t hfl,?_⟩;rw[Ab,?c7 e0];rfl
       . have e0:¬?g7=0:=?bQ
         have hik:i<k0:=by
          by_cases hh:i<k0
          . exact hh
          . unfold Lat.numAt at e0;rw[?a5 hh]at e0;exact ?k0 rfl e0
         obtain⟨tu,b,h1q,h2q,h3q⟩:=rows fi w w r.1 G1 (?u g1 zQ) O9m;refine⟨_,rfl,_,rfl,_,_,rfl,rfl,_,rfl,_,rfl,fi,tu,_,_,rfl,rfl,h1q,h2q,a,b,xs,k+1,Ho w (r.1 i),rfl,?u g1 hL5,O9m,?jE,by rw[J0,hw],fun fl G2 nfl g2 hfl=>?_⟩;refine ?rW ⟨fl,rfl,g2,?_⟩;rw[hfl,?a5 e0,hw];rfl
     refine Xm fun fl G2 g2 hfl=>?_;intro sq;have JO:=?g4;refine ?rV (fun σ' H'=>Es fun(lp:Addr)=>E4 (σ'=[?l,?Z,?S,?T,?U,?aR,?aY,?bG,?c1,?d5,?dS,?I,?a1,?mY,rS fl,rS lp]) (?uL G2) (H' lp=?uP (W2 xs k (?dO z l.2 L i))))
     . obtain⟨tu,b,h1q,h2q,h3q⟩:=rows tl z ?cY _ G2 (?u JO A39) hi;refine⟨_,rfl,_,rfl,_,rfl,_,rfl,tl,tu,_,_,rfl,rfl,h1q,h2q,a,b,xs,k,Ho ?cY (?dO z l.2 L i),rfl,?u JO hL5,O9m,?jE,?lO,fun lp G3 nlp g3 hlp=>?_⟩;exact ?rW ⟨lp,rfl,g3,hlp⟩
     refine Xm fun lp G3 g3 hlp=>?_;intro sq;have VL:=JO.trans g3;have Ae3:=(?mJ g2).trans g3;obtain⟨tu,b,h1q,h2q,h3q⟩:=rows tg z ?cY _ G3 (?u VL A40) hi;refine⟨_,rfl,?s4 (Ae3 _ _ Ev),_,rfl,_,rfl,_,rfl,_,rfl,_,rfl,_,rfl,tg,tu,_,_,rfl,rfl,h1q,h2q,a,b,xs,k,Ho ?cY (?dO z l.1 G i),rfl,?u VL hL5,O9m,?jE,?lO,fun gp G4 ngp g4 hgp=>?_⟩;refine⟨_,rfl,?aT,fun t ht=>?_⟩;have g5:=?t (o:=?sD fl) ht;have et:upd G4 t (?sD fl) t=?c (?sD fl):=Ab;generalize upd G4 t (?sD fl)=G5 at g5 et;have g45:=g4.trans g5;have zK:=Ae3.trans g45;refine⟨D,_,_,rfl,rfl,?gZ,?bS,?_⟩;have hP:Hm G5 (?d t) (DA xs k z k0 L G f l r i):=⟨t,lp,gp,fl,rfl,et,g45 _ _ hlp,g5 _ _ hgp,(?iT g45) _ _ hfl,(Ao (g3 _ _ hfl) ngp).symm⟩
     have nDt:∀c o,?o8->(∀vs,o≠?m vs)->c≠D:=fun c o e h z=>by
      rw[z,?gZ]at e;cases e;exact h _ rfl
     have sx:∀c o,c≠D->?o8->upd G5 D (?m (?pM)) c=?aO:=fun c o hc e=>by rw[Aj hc];exact e
     refine⟨?pM,_,_,_,_,rfl,(?aX zK).turn nD,Ab,?_⟩;rw[qk4,qb5];exact B5.snoc (B5.put (?gZ) (B5.same zK rU)) (Hm.put hP (?gZ))
   . rintro σ G' C3;ext rN;rw[Bv]at rU;exact ?rW ⟨us,_,_,_,_,rfl,g,Ev,rU⟩
 refine Aa8 fun us ZL zL ZK xB H7 s7 hD7 rU=>?_;intro sq;exact⟨_,rfl,kq D us H7 (s25.free nD) (s25.trans s7) hD7 rU⟩
noncomputable abbrev Nl:Stmt:=Ex ?nL 2
theorem g9:?D ?fS ?fS (Au Nl):=Bh
theorem j5[?K](F:Er K ?hW ?nP Nl f fd)[?J][?rP]:?uK ?fS ?qI:=by
 refine ?sS g9;obtain⟨p,k,B,xs,ls,rfl,bk,sB,hk0,tP,kq⟩:=h;ext h3;obtain⟨dx,P,Lv,Lf,lu,wu,hp,_,VJ,hW,_,_⟩:=bk.ob;obtain⟨E,eu,qs,e1,e2,hE,rE⟩:=hW.at (k:=k.toNat) (by have:=bk.n4;rw[qa4];omega)
 rw[qa9]at e2;obtain⟨ps,hps,rfl⟩:=qh5.mp e2;have hpl:=(bk.lev _ _ hps).len bk.len;have nl:?hD<=ps.length:=qh9 _ _;have el:=rE.len
 have hat:iK lu k=?c (?d E):=by
  have:=Bp e1
  rwa [?m9]at this
 refine⟨_,(Af (Bx (?u5 Fp (?rX ?o (?vQ 4))))
  (Ai (Bb (Cc (N':=["order","loop","gauge",?r8]) (cap:=[none,none,none,none]) ?i ?b1 (?s8 Cd ?b6) (?rZ (Dy (K:=K) (n:=4) ?i (Bm (?uG BU) (Bm (?vB 1 BU) (Bm (?vB 2 BU) (Bm (?vB 3 BU) Dx)))))) ?b3 (fun _ _ _ _=>(D7 (Aa ?k (Aa (?vP ?a7) (?rX (?vP ?b5) (?vP (?vA ?y))))))))))),?_⟩
 ext P
 refine⟨_,rfl,k,4,rfl,hk0,tP,?_⟩;refine⟨_,rfl,p,Ax,dx,_,_,rfl,sB _ _ hp,?bE,?p4,rfl,_,rfl,Lv,lu,_,_,rfl,rfl,?s5 sB VJ,hat,E,rfl,⟨_,?s5 sB hE⟩,?bR⟩
 let Bd1:?bB:=fun i ys τ G=>B6 (?g H G) (G D=?u3 ys) (Cr H G ys ((Ux ps).take i)) (T7 fun o1 o2 o3 o4=>τ=[o1,o2,o3,o4])
 refine Cp (K:=K) (a:=E) (xs:=eu) Bd1
  ⟨?fN,Ab,?qD,_,_,_,_,rfl⟩ (?vN (sB _ _ hE)) ?_ ?_
 . rintro i v ys τ G hv C3;revert τ;refine Ai1 ?_;intro g Ev rY o1 o2 o3 o4 Ei;have hi:=?dA;obtain⟨q,hq,pv⟩:=rE.get hv;obtain⟨t,c1,c2,c3,rfl,et,d1,d2,d3,_⟩:=pv.same (sB.trans g)
   have yl:?pA:=by
    have:=rY.1;rw[qc9]at this;omega
   refine⟨t,_,rfl,?gF,rfl,_,_,rfl,_,_,rfl,_,_,rfl,_,_,rfl,rfl,?_⟩;refine⟨_,rfl,_,rfl,c1,_,rfl,?p d1,?oM⟩;have g1:=?lL;refine⟨_,rfl,c2,_,rfl,?p (g1 _ _ d2),?r0⟩;have g2:=?dE (?qO);refine⟨_,rfl,c3,_,rfl,?p (g2 _ _ d3),?m6⟩;ext rU;ext rB;refine⟨?gL,?bS,?pZ hD,Ab,?_,_,_,_,_,rfl⟩;ext rA
 . rintro ys τ G ⟨g,Ev,rY,_⟩;rw[el,qd2]at rY;exact kq ps D ys G hps hD g Ev rY
noncomputable abbrev Rq:Stmt:=top 12
theorem DY:?D ?eQ ?eQ (Au Rq):=Bh
theorem EJ[?K](F:Er K ?fD ?fD Rq f fd)[?J](Zh:Has P w K mg ?e ?qS [?L,"k",?dR,?dJ] 4 (Xx K)):?tK ?eQ Vx:=by
 refine ?sS DY;obtain⟨a,b,xs,k,ms,rfl,hL,hb,hm,kq⟩:=h
 refine⟨_,(Af (B9 (Eh (D6 (Bc We T.n_isinstance Bz (?rX ?s (Gh (v:=.ty "dict") rfl ?c4 Du rfl))))) ?eV Bo)
  (Ai (Bb (Bc (?s8 Nz ?i) T.n_all Qg (?vA (nW (Cc (N':=[?dR,?dJ,?L,"k"]) (cap:=[none,none,?c 0,?d7]) ?i ?b1 (Pb ?s) (?rZ (?tW (Ap (i:=0) uZ) (Ap (i:=1) uZ))) ?b3 (?rZ (?u5 Zh (Aa ?s (Aa ?y ?e8))))))))))),?_⟩
 ext P
 refine⟨_,rfl,b,_,rfl,?p hb,_,rfl,?_⟩;ext h7;refine ?a8 ⟨b,?a9,hb,?n9⟩;refine⟨_,rfl,b,o,?a9,rfl,Ab,?bR⟩;obtain⟨TR,DH⟩:=EZ hD
 let Bd0:?bB:=fun i zs τ H1=>Dp (zs=((ms.take i).map ?lJ).map V.bl) (H1 b=?c (?sI o)) (H1 D=?u3 zs) (M4 b H H1) (Ij fun o1 o2=>τ=[o1,o2,?l,?Z])
 refine Zu (d:=b) (o:=o) (kvs:=?a9) Bd0
  ⟨rfl,?_,Ab,?_,?j,?j,rfl⟩ (fun i zs τ H1 _ hz=>by obtain⟨_,e,_⟩:=hz;exact e) ?_ ?_
 . rw[?e3];exact Ab
 . intro c q n1 e2;rw[Aj (Ao e2 TR),Aj n1];exact e2
 . rintro i kk x zs τ H1 p hx C3 hp;revert τ;refine vB ?_;intro hz1 hb1 Ec hk1 o1 o2 Ei;subst hz1;obtain⟨q,hq,rfl,rfl⟩:=Oa hx;have hlt:?n1:=?pH;have sp:?tE H1 H1:=?h1;ext kM;refine⟨_,rfl,_,rfl,_,rfl,_,rfl,a,xs,k,q.1,q.2,rfl,?u sp (Rep.x hk1 hb hL),?_⟩;refine⟨sp _ _ Ec,?c0 (by simp;omega),?_,?_,Ab,fun c r n1 e2=>?_,_,_,rfl⟩
   . rw[qo1,hq,qb5,qb5];rfl
   . rw[?e3];exact sp _ _ hb1
   . rw[Aj (fun z=>by rw[z,TR]at e2;cases e2)];exact sp _ _ (hk1 c r n1 e2)
 . rintro zs τ H1 ⟨rfl,hb1,Ec,hk1,_⟩;rw[Mb,qd2]at Ec;refine⟨hb1,D,ms.map ?lJ,rfl,.of (by rw[Aj DH];exact Ec),?_⟩;rw[List.all_map];refine kq _ fun c q e2=>?_;by_cases z:c=b
   . subst z;rw[hb]at e2;cases e2;exact Ab
   . rw[Aj z];exact hk1 c q z e2
noncomputable abbrev Kk:Stmt:=top 31
theorem Jh:?D [?cL,?dR,"piece"] [?cL] (Au Kk):=Bh
theorem Wq[?K](F:Er K ?fP ?fP Kk f fd)[?J](PF:Has P w K mg ?e "fits" [?L,?bJ] 4 (IZ K)):?tK [?cL] Xw:=by
 refine ?sS Jh;obtain⟨v,xs,rfl,hL,hs,hx,k⟩:=h;obtain⟨a,us,rfl,hq,r⟩:=id hL;have hl:?m2:=?nM
 refine⟨_,(Af (B8 qb6 rfl (S6 (K:=K) ?i ?pG ?cI) (?tW (?vB 1 Jh.nd) (?vB 2 Jh.nd)) (Ai (B9 (?sA PF (Aa (Eo ?d1 ?k Gf (E9 ?o)) ?b5)) (?vE ?o) Bo)))
  (?vE BP)),?_⟩
 ext P
 refine(?v7 a ⟨us,hq⟩)
 let Bc9:?bL:=fun i σ G=>Ij fun o1 o2=>σ=[?l,o1,o2]/\?g H G
 refine Zk (K:=K) (a:=a) (xs:=us) Bc9
  ⟨?j,?j,rfl,Same.refl H⟩ (fun i σ G _ hz=>by obtain⟨_,_,_,s1⟩:=hz;exact s1.seq hq) ?_ ?_
 . rintro i v σ G p hv C3 hp
   and_intros
   revert σ;refine JI ?_;intro o1 o2 s1 Ei;have hi:i<xs.length:=by have:=?dA;omega
   obtain⟨dv,pC,rv⟩:=r.getV hv
   have edv:dv=?mB:=by
    rw[qa9,?cZ]at pC;simpa using pC.symm
   subst edv;have sp:?g G (?pB):=?h1;ext kM;generalize ?pB=G1 at sp;have s2:=?aB sp;refine⟨_,rfl,_,rfl,_,rfl,a,us,rfl,s2.seq hq,?p9⟩;have s3:?g G1 (?oN):=?t hc;have ec:upd G1 c (?t4 ?N) c=?c (?t4 ?N):=Ab;generalize ?oN=G2 at s3 ec;have s4:=?eP
   have A64:LT K G2 (?d c) (?qW):=by
    refine⟨c,_,rfl,.of ec,?_⟩;rw[Tw,qp2];exact(?d3 s4 r).take i
   refine⟨_,rfl,c,v,?mB,?qW,rfl,A64,?u s4 rv,fun G3 s5=>?c9⟩;rw[lV (hs i xs[i] (?cZ))];ext h4;exact⟨_,_,rfl,s4.trans s5⟩
 . ext eH;refine JI ?_;intro o1 o2 s1 Ei;exact k G s1
noncomputable abbrev Lr:Stmt:=Ex (top 58) 2
theorem G7:?D [?Q,?i4,"i","at","head",?gS] ?j0 (Au Lr):=Bh
theorem Yo[?K](F:Er K ?kH ?nS Lr f fd)[?J][?rG][?rK](Js:?v0 Ad):By P w K mg ?e Ej 5 f fd ?j0 (?rY DR):=by
 refine ?sS G7;obtain⟨H0,p,q,M,n,W,t,spot,i,s,Nx,rfl,x,hs,hi,ok,k⟩:=h;ext kS;obtain⟨r,b,lx,f1,f2⟩:=x.ex;ext d9;ext kR;obtain⟨h1,h2,h3⟩:=ok.hd ?r (qa1 _) hs;obtain⟨o1,o2⟩:=ok.oth;obtain⟨ci,_,mS,_,lS⟩:=?eR;obtain⟨cs,_,ecs,_,hcs⟩:=?s8 xa.row ?e0
 refine⟨_,(Af (?vK G7.nd ?b6)
  (Af (?tL 4 ?b6)
  (Af (?tL 5 ?bP)
  (Af (B9 (?tR Et (Bq Jo ?bA ?a2)) (?u2 Ct (?vA (D7 (Aa Np (Aa ?s (?rX ?o (Mn Ht (Bq Kq ?bA ?a2)))))))) (Af (Bx (Dh ?k ?w Js hr (?vX ?s (Aa ?a2 ?b7))))
  (?u2 Cg (?rX ?o (?vF ?o)))))
  (?u2 Cg (?rX ?s (?vF ?o))))))),?_⟩
 ext P
 refine⟨_,rfl,p,Ad,dx,fs,_,rfl,hp,?w,?d0,l3,_,rfl,q,_,_,_,rfl,rfl,?oS,?tH hs,?_⟩;refine⟨_,rfl,p,Ad,dx,fs,_,rfl,hp,?w,?aN,l1,_,rfl,r,_,_,_,rfl,rfl,?bV,Bp ecs,_,rfl,cs,_,_,_,rfl,rfl,hcs,?l6,?_⟩;refine⟨_,rfl,p,Ad,dx,fs,_,rfl,hp,?w,?aN,l1,_,rfl,r,_,_,_,rfl,rfl,?bV,Bp mS,_,rfl,ci,_,_,_,rfl,rfl,lS,?l6,?_⟩;refine As (fun σ' H'=>?hO/\?cA) ?_ fun key=>?iA;ext cE;refine qw7 (t:=?hU) (fun σ' H'=>?hO/\∃s1,?s9 H' s1/\bE n W t i ?bH i s1/\Hds W t ?bH i s1.1/\Nx (Lat.shrS t i ?bH s1 (i-?bH))) ?h ?_
 . refine(?sW h2);refine ?lG
   . have h5:?cP%?cV=0:=?hY
     have h6:?cP=?k1*?cV:=(Int.ediv_mul_cancel (?oT h5)).symm;obtain⟨UW,uW⟩:=ok.add _ h6;refine⟨_,rfl,p,dx,fs,rfl,hp,?e4,_,rfl,_,rfl,_,rfl,_,rfl,_,_,rfl,rfl,Vr.of9 O9m h3,_,rfl,?aT,?_⟩;rw[qg8 _ (Int.le_of_lt h2)];have hk:(?k1).natAbs<L9:=qb8 (qh1 _ _) o2;generalize ?k1=kk at h6 UW uW hk;intro T1 hT1;have s1:?g H (?jC):=?f9;have hT:?sT ?jC (?i9):=?jY
     generalize ?jC=G1 at s1 hT;refine⟨p,?dF,Ad,r,b,_,n,W,_,_,?i9,rfl,?j6,?kY,hT,⟨hi,O9m,O9m,fun c hc=>GW (by rw[qc4];exact hk) (ok.bo.1 _ _ O9m hc)⟩,⟨O9m,hi,O9m,fun c hc=>GW (by rw[qc4,qc4];exact hk) (ok.bo.2 _ _ hi hc)⟩,O9m,O9m,?iL⟩;refine ?rW ⟨rfl,_,x.redo s1 sx n1 n2 z,UW,?pW,uW⟩;have e:(tnS (?i9) s).1 j=s.1 j:=Lat.addR_row_ne (?sO i);rw[e];exact ?n5
   . refine As (fun σ' H'=>?hO/\∃g a c,?pN (?cV) (?cP) g a c/\?s9 H' (?k9)) ?_ ?nK;rotate_left
     . refine⟨_,rfl,p,dx,fs,rfl,hp,?e4,_,rfl,_,rfl,_,rfl,_,rfl,?_⟩;refine⟨p,Ad,r,b,_,n,W,?r,i,_,_,s,_,rfl,?j6,lx,O9m,hi,O9m,O9m,O9m,h2,o1,h3,o2,ok.bo,fun L g a c G fr kp _ sh z=>?_⟩;exact HC _ _ ⟨rfl,g,a,c,sh,x.redo2 lx f1 f2 fr kp z⟩
     refine Hn fun G DJ=>?_;intro sq;obtain⟨g,a,c,sh,y⟩:=DJ;obtain⟨UW,uW,ok3⟩:=ok.ble g a c sh
     have hd1:Hds W t ?bH i (?k9).1:=fun j hj1 hj2=>by
      have e:(?k9).1 j=s.1 j:=Lat.blend_row_ne (?sO spot) (?sO i) _ _ _ _;rw[e];exact ?n5
     ext rC;refine⟨H0,p,q,M,n,W,t,i,_,?r,?cK,rfl,y,O9m,O9m,?p O9m,hd1,UW,?n0⟩;refine ?rW ⟨rfl,_,z,uW,?pW,ok3⟩;rw[X5 _ _ _ _ _ _ (?sO spot)];exact hd1 j hj1 hj2
 refine Hn fun G DJ=>?_;intro sq;obtain⟨s1,y,UW,hd1,uW⟩:=DJ;ext rC;exact⟨H0,p,q,M,n,W,t,i,s1,i,?cK,rfl,y,hi,O9m,?a8 (qa1 _),hd1,UW,fun G' z=>k _ _ z uW⟩
noncomputable abbrev Jj:Stmt:=Ex (top 58) 3
theorem Mj:?tS ?e9 Jj:=Bh
theorem Us[?K](F:Er K ?j3 ?m5 Jj f fd)[?J][?rG]:?u1 5 Xz:=by
 refine ?sS Mj;obtain⟨H0,p,q,M,n,W,t,i,s,rfl,x,ok,k⟩:=h;ext kS;obtain⟨r,b,lx,_⟩:=x.ex;ext d9;refine⟨_,(Ai (B8 qb6 rfl (RY ?i ?b0 (Aa (Bq Jn ?eT Ak) (?rX (Mn Ht Ak) (Mn Ht Ak)))) (?vB 1 Mj.nd) (?u2 Cg (?rX ?o (?vF ?o))))),?_⟩;refine⟨_,rfl,p,Ad,dx,fs,_,rfl,hp,?w,?d0,l3,q,_,rfl,?p (?oS),_,_,rfl,rfl,_,rfl,_,rfl,i+1,by rw[Bv],O9m,?_⟩;clear lx hp l1 l2 l3 l4 l5
 let Bc8:?bL:=fun d σ G=>Es fun o1=>σ=?pJ/\SX Ad H0 G p q M n W t (i+1) (?qM)
 refine PJ (hi:=((i+1:Nat):Int)-1) (n:=i+1) Bc8 ?mX ?_ ?_
 . rintro d σ G hd C3
   and_intros
   revert σ;ext kT;obtain⟨r,b,lx,_⟩:=y.ex;ext d9;rw[show((i+1:Nat):Int)-1-((d:Nat):Int)=((i-d:Nat):Int) by omega];obtain⟨UW,uW⟩:=ok d O9m;refine⟨_,rfl,p,dx,fs,rfl,hp,?e4,_,rfl,_,rfl,_,_,rfl,rfl,?_⟩;refine⟨H0,p,q,M,n,W,t,i+1,?qM,i-d,i-d+1,rfl,y,O9m,O9m,?p O9m,UW,uW,?n0⟩;rw[show i+1-(i-d+1)=d by omega]at z;exact⟨_,rfl,z⟩
 . ext eH;ext kT;exact k _ y
noncomputable abbrev Fx:Stmt:=Ex ?h0 3
theorem Cq:?tS [?Q,?i5,"gap","i","j"] Fx:=Bh
theorem Pf[?K](F:Er K ?i7 ?nC Fx f fd)[?J](J4:K5 P w K mg ?e Ah ?hB ?hI 4 (?rY aF)):?u1 5 AF:=by
 refine ?sS Cq;obtain⟨H0,p,L,R,nm,n,w,m,l,r,f,Sv,rfl,x,mn,mw,v0,vs,k⟩:=h;obtain⟨iM,YW,NN⟩:=T.x_GAPS;obtain⟨qQ,qP⟩:=x.sm;ext eE
 refine⟨_,(Af (Av (i:=1) ?e5 ?eT)
  (Af (B8 qb6 rfl (?s8 Qc (Ld (v:=?d iM) ?i YW rfl)) (?vB 2 ?e5) (Ai (?vU (?vA (Bq Jn ?o ?s)) (Ai (Bx (Dh ?k ?q J4 hr (?rX ?y (Bq Ds ?y ?s))))))))
  (Ai (?vU ?a7 (Ai (B8 qb6 rfl (aI ?i ?b0 (Aa (?vF ?y) ?a7)) (?tI ?e5) (Ai (Bx (Dh ?k ?q J4 hr (Aa ?y ?d8)))))))))),?_⟩
 ext P
 refine ?rV (fun σ' H'=>σ'=[?n,?cN,none,none,none]/\?cA)
 . exact⟨_,rfl,p,Ah,HV,HK,_,rfl,hpa,?q,?bW,VH,nm,_,rfl,?p (?kI),?rW ⟨by rw[qa4,J0];rfl,rfl⟩⟩
 ext cE;refine ?rV (fun σ' H'=>Ij fun ?nI=>?uO o3 none/\∃(d:Nat) (f:?cH) (l r:?bI),d<=5*m/\?g6/\?uB H' l)
 . refine⟨iM,rfl,⟨_,NN H⟩,?_⟩
   let Bc7:?bL:=fun g σ' G=>Ij fun ?nI=>?uO o3 none/\∃(d:Nat) (f:?cH) (l r:?bI),d<=g*m/\?mR
   refine cI (K:=K) (a:=iM) (xs:=(([32,16,8,4,2]:?bN Int).map ?aK)) Bc7 ⟨?j,?j,rfl,0,f,l,r,O9m,v0,x⟩ (fun g σ G _ _=>NN G) ?_ ?_
   . rintro g y σ G hy C3
     and_intros
     obtain⟨o2,o3,rfl,d,f,l,r,hd,hv,z⟩:=C3
     have hg:∃gp:Nat,y=?f ?hQ/\1<=gp/\gp<=32/\g<5:=by
      match g,hy with
      | 0,hy=>cases hy;exact(?sJ 32)
      | 1,hy=>cases hy;exact(?sJ 16)
      | 2,hy=>cases hy;exact(?sJ 8)
      | 3,hy=>cases hy;exact(?sJ 4)
      | 4,hy=>cases hy;exact(?sJ 2)
      | g+5,hy=>simp at hy
     obtain⟨gp,rfl,g1,g2,g5⟩:=hg;refine⟨_,rfl,_,rfl,_,_,rfl,rfl,_,rfl,O9m,O9m,?_⟩;refine Ck (lo:=0) (n:=(?eY-?hQ).toNat) (fun i σ' G=>Es fun(o3:?g5)=>σ'=[?n,?cN,?u4 ?hQ,o3,none]/\∃(d:Nat) (f:?cH) (l r:?bI),d<=g*m+i/\?mR) ⟨o3,rfl,d,f,l,r,hd,hv,z⟩ ?_ ?_
     . rintro i σ G hi ⟨o3,rfl,d,f,l,r,hd,hv,z⟩;rw[qo5];ext rI
       have hm5:g*m+m<=5*m:=by
        have:=qb7 m (show g+1<=5 from g5);rw[qf5,qf2]at this;exact this
       refine⟨_,rfl,p,dxc,fsc,rfl,hpc,?q5,_,rfl,_,rfl,_,rfl,_,_,rfl,rfl,?_⟩;obtain⟨o1,o2',o3'⟩:=?tG (i+gp);refine⟨H0,p,L,R,nm,n,w,m,i,i+gp,l,r,f,rfl,z,O9m,O9m,mn,mw,o1,?oH,?o1⟩
       . exact⟨_,rfl,d+1,f,l,r,O9m,o2' pC,z⟩
       . exact⟨_,rfl,d+1,_,_,_,O9m,?m8,z'⟩
     . rintro σ G ⟨o3,rfl,d,f,l,r,hd,hv,z⟩;refine⟨_,_,rfl,d,f,l,r,?_,hv,z⟩;rw[qf5,qf2];omega
   . rintro σ G ⟨o2,o3,rfl,d,f,l,r,hd,hv,z⟩;exact ?rW ⟨o2,o3,rfl,d,f,l,r,hd,hv,z⟩
 refine IS fun o2 o3 G DJ=>?_;intro sq;obtain⟨d,f,l,r,hd,hv,z⟩:=DJ;refine⟨_,rfl,_,rfl,O9m,O9m,?_⟩;refine Ck (lo:=0) (n:=(?eY).toNat) (fun i σ' G=>Ij fun(o3 o4:?g5)=>?uO o3 o4/\∃(d:Nat) (f:?cH) (l r:?bI),d<=5*m+i*m/\?g6/\?nB m i f/\?hA) ⟨o3,?j,rfl,d,f,l,r,O9m,hv,fun a b ha=>O9m,z⟩ ?_ ?_
 . rintro i σ G hi ⟨o3,o4,rfl,d,f,l,r,hd,hv,hc,z⟩;rw[qe6]at hi;rw[qo5]
   have him:i*m+m<=m*m:=by
    have:=qb7 m (show i+1<=m from hi);rw[qf5,qf2]at this;exact this
   refine⟨_,rfl,_,_,rfl,rfl,_,rfl,_,_,rfl,⟨O9m,O9m,O9m,O9m⟩,?_⟩;refine Ck (lo:=?N+1) (n:=?nZ) (fun j σ' G=>Es fun(o4:?g5)=>?uO ?a1 o4/\∃(d:Nat) (f:?cH) (l r:?bI),d<=5*m+i*m+j/\?g6/\Lat.ChainAt m i (?fE) f/\?hA) ⟨o4,rfl,d,f,l,r,O9m,hv,hc.at,z⟩ ?_ ?_
   . rintro j σ G hj C3
     and_intros
     obtain⟨o4,rfl,d,f,l,r,hd,hv,hc,z⟩:=C3;rw[show ?N+1+(j:Int)=((?fE:Nat):Int) by omega];ext rI;refine⟨_,rfl,p,dxc,fsc,rfl,hpc,?q5,_,rfl,_,rfl,?_⟩;obtain⟨o1,o2',o3'⟩:=?tG (?fE);refine⟨H0,p,L,R,nm,n,w,m,i,?fE,l,r,f,rfl,z,O9m,O9m,mn,mw,o1,?oH,?o1⟩
     . exact⟨_,rfl,d+1,f,l,r,O9m,o2' pC,hc.skip pC,z⟩
     . exact⟨_,rfl,d+1,_,_,_,O9m,?m8,hc.step O9m O9m sh.pair,z'⟩
   . rintro σ G ⟨o4,rfl,d,f,l,r,hd,hv,hc,z⟩;rw[show i+1+?nZ=m by omega]at hc;refine⟨_,_,rfl,d,f,l,r,?_,hv,hc.next,z⟩;rw[qf5,qf2];omega
 . rintro σ G ⟨o3,o4,rfl,d,f,l,r,hd,hv,hc,z⟩;rw[qe6]at hc;exact k d f l r _ hv hc z
noncomputable abbrev Eg:Stmt:=top 14
theorem K6:?D ?fL ?fL (Au Eg):=Bh
theorem K7[?K](F:Er K ?gC ?gC Eg f fd)[?J](U9:Has P w K mg ?e ?fD ?eQ 5 (Vx K)):?tJ ?fL Fs:=by
 refine ?sS K6;obtain⟨a,b,xs,n,ms,rfl,hL,hb,hm,hn,kq⟩:=h;refine⟨_,(Ai (Bb (Bc (?s8 Y8 ?i) T.n_any aZ (?vA (Cc (N':=["k",?L,?bJ]) (cap:=[none,?c 0,?d7]) ?i ?b1 (?sV ?b5) (?rZ (?uG Ah0)) ?b3 (?rZ (?u5 U9 (?vX ?k ?b5)))))))),?_⟩;refine⟨_,rfl,_,rfl,O9m,O9m,?bR⟩
 let Bc6:?bB:=fun i zs τ H1=>B6 (?g H H1) (H1 D=?u3 zs) (zs=(?nR ?kJ).map V.bl) (?tA [o,?l,rS b])
 refine Jd Bc6
  ⟨?fN,Ab,rfl,?j,rfl⟩ ?_ ?_
 . rintro i zs τ H1 hi C3;revert τ;refine Lg ?_;intro s1 Ec hzs o Ei;have hi2:i<n:=O9m
   refine⟨_,rfl,_,rfl,_,rfl,a,b,xs,_,ms,rfl,?gM,?lR,hm,fun H2 s2=>?_⟩;refine⟨?v4 Ec,?c0 (by rw[hzs,qa4,qa4,qo2];omega),(?aB s2).turn hD,Ab,?_,_,rfl⟩;rw[qk4,qb5,qb5,hzs,show((0:Int)+?N)=?N by omega];rfl
 . rintro zs τ H1 ⟨s1,Ec,hzs,_⟩;rw[qe6]at hzs;refine⟨D,(?hK n).map ?kJ,rfl,.of (by rw[Ec,hzs]),?_⟩;rw[List.any_map];exact kq _ s1
noncomputable abbrev Rp:Stmt:=top 29
theorem dY:?D ?dL ?dL (Au Rp):=Bh
theorem EI[?K](F:Er K ?fG ?fG Rp f fd)[?J](Jt:Has P w K mg ?e ?pS ?dL 1 (jA K))(L6:Has P w K mg ?e ?fP [?cL] 5 (Xw K)):?tJ ?dL Sn:=by
 refine ?sS dY;obtain⟨v,xs,rfl,hL,hs,Jv,k⟩:=h;refine⟨_,(?vE (Ly (?u5 Jt ?cI) (Nq (Le WZ (?u5 L6 ?cI) BP ?aQ)))),?_⟩;refine⟨_,rfl,v,xs,rfl,hL,Jv,_,rfl,?_⟩;refine cC ?i ?_;exact⟨_,rfl,v,xs,rfl,hL,hs,Jv,fun H1 s1=>⟨rfl,k H1 s1⟩⟩
noncomputable abbrev Jk:Stmt:=Ex (top 58) 1
theorem Hw:?D [?Q,"i",?i4] ?e9 (Au Jk):=Bh
theorem Ut[?K](F:Er K ?k8 ?lB Jk f fd)[?J](Mw:Has P w K mg ?e ?qV [?fQ] 1 (Sw K))[?rK](L4:K5 P w K mg ?e Ad ?kH ?j0 5 (?rY DR)):By P w K mg ?e Ej 6 f fd ?e9 (?rY X0):=by
 refine ?sS Hw;obtain⟨H0,p,q,M,n,W,t,i,s0,I,rfl,x,hi,P,ht,k⟩:=h;ext kS
 refine⟨_,(Af (?sH Hw.nd Ak)
  (Af (S4 qb6 (PW.pt (Up (Bf Pc ?s ?o ?aQ) (P9 (?t3 JC)))) (Af (B9 (?t3 Et) (?u2 L4 (Aa ?s ?a7)) Bo)
  (Ai (?sH Hw.nd (?vF ?s)))))
  (Af (?tX Gn)
  (Af (?tX Gn)
  (Af (Bx (Gn (K:=K) qd4 qq9 qq8 Uy ?R (?rX ?s (?u5 Mw (?vA ?bP)))))
  (Ai (B9 (?tR Pc (?vT ?bP ?bP)) (?u2 Ct (?vA (D7 (Aa Np ?b5)))) Bo))))))),?_⟩
 ext P
 refine ?sE [?n,iS i,?u4 ?m1];ext cE;refine ?rV (fun σ' H'=>Qt fun spot st s=>K8 ?gH (SX Ad H0 H' p q M n W t i s) ?pU ?mF (Hl W (s.1 i) st) ((spot<i->st<?cO)))
 . refine⟨fun m σ' G=>Ij fun spot s=>Dp ?gH (?s9 G s) ?pU ?mF (m=i-spot),⟨_,0,s0,rfl,x,P.start,?dV,rfl⟩,?_⟩;rintro m σ G C3;refine tD ?_;intro _;obtain⟨spot,s,rfl,y,hI,hs,rfl⟩:=C3;obtain⟨st,hb⟩:=Hl.ex (P.ok ?r s hs hI);obtain⟨r,b,lx,_⟩:=y.ex;ext d9;ext kR;obtain⟨ci,_,mS,_,lS⟩:=?eR;refine⟨_,rfl,_,rfl,_,_,rfl,rfl,_,rfl,?_⟩;ext h2
   . have hlt:spot<i:=by have:?gX<?N:=?bQ
                         omega
     refine⟨_,rfl,p,Ad,dx,fs,_,rfl,hp,?w,?d0,l3,_,rfl,q,_,_,_,rfl,rfl,?nX,?tH hlt,_,rfl,p,Ad,dx,fs,_,rfl,hp,?w,?aN,l1,_,rfl,r,_,_,_,rfl,rfl,?bV,Bp mS,ci,W,st,_,rfl,lS,hb,O9m,_,_,rfl,rfl,_,rfl,?_⟩;refine ite2 (fun h2=>?_) (fun h2=>?_)
     . have hle:t spot<=st:=by have:?p5:=?mV
                               omega
       refine⟨fun σ' G'=>Ij fun IY s'=>B6 (σ'=[?n,iS i,?c (?f ((IY:Nat):Int))]) (?oB) (I IY s') (IY=?cK),?_,?_⟩
       . rintro σ' G' ⟨IY,s',rfl,z1,z2,rfl⟩;exact⟨i-?bH,O9m,?cK,s',rfl,z1,z2,hlt,rfl⟩
       refine As (t:=?hU) (fun σ' G'=>?iI/\∃s',?oB/\I ?bH s') ?_ ?nK;rotate_left
       . refine⟨_,rfl,p,Ad,dx,fs,_,rfl,hp,?w,?d0,l3,_,rfl,q,_,_,_,rfl,rfl,?nX,?tH hlt,_,rfl,p,Ad,dx,fs,_,rfl,hp,?w,?aN,l1,_,rfl,r,_,_,_,rfl,rfl,?bV,Bp mS,ci,W,st,_,rfl,lS,hb,O9m,rfl,_,rfl,?_⟩;refine ite2 (fun h3=>?_) (fun h3=>?_)
         . have he:?cO=st:=by
            have:?gY=?jF:=?oD
            omega
           refine⟨_,rfl,p,dx,fs,rfl,hp,?e4,_,rfl,_,rfl,?_⟩;refine⟨H0,p,q,M,n,W,t,?r,i,s,I ?bH,rfl,y,hlt,hi,P.meet ?r s hlt hI (?kV) (by rw[he];exact hb.2.1),fun G' s' z1 z2=>?_⟩;exact HC _ _ ⟨rfl,s',z1,z2⟩
         . have he:¬?cO=st:=by
            have:¬?gY=?jF:=?oD
            omega
           exact HC _ _ ⟨rfl,s,y,P.skip ?r s hlt hI ?kV⟩
       rintro _ G' ⟨rfl,s',z1,z2⟩;exact⟨_,rfl,_,_,rfl,rfl,?cK,s',rfl,z1,z2,rfl⟩
     . have hle:¬t spot<=st:=by have:¬?p5:=?mV
                                omega
       exact ?rW ⟨?r,st,s,rfl,y,hI,hs,hb,fun _=>O9m⟩
   . have hlt:¬spot<i:=by have:¬?gX<?N:=?bQ
                          omega
     exact ?rW ⟨?r,st,s,rfl,y,hI,hs,hb,fun z=>?k0 z hlt⟩
 refine uM fun spot st s G y hI hs hb hex=>?_;intro sq;obtain⟨r,b,lx,f1,f2⟩:=y.ex;ext d9;ext kR;obtain⟨bs,xb,nb⟩:=lx.bk;obtain⟨pr,pb⟩:=lx.refs;have rb:=lx.ne;obtain⟨ci,rci,mS,mci,lS⟩:=?eR;obtain⟨di,rdi,edi,mdi,hdi⟩:=?s8 xb.row hi
 have six:∀l:Nat,i<l->seqIndex? ?n4 l=?c i:=fun l hl=>by
  unfold seqIndex?;simp only[show ¬?n4<0 by omega,if_false,qe6]
  first | (rw[?fB]) | (rw[?c7 (by omega)]) | (simp;omega)
 refine ?rV (fun σ' H'=>E4 ?gH ((∀a,a≠r->H' a=G a)) (?vD r (insAt ?r (?d ci) ((?e7).eraseIdx i))))
 . refine⟨_,rfl,p,Ad,dx,fs,_,rfl,hp,?w,?aN,l1,?p ⟨rfl,_,?bV⟩,_,rfl,_,rfl,p,Ad,dx,fs,_,rfl,hp,?w,?aN,l1,?p ⟨rfl,_,?bV⟩,_,rfl,r,_,_,i,_,rfl,rfl,?g1,O9m,O9m,six _ (by rw[qa4,xa.1];exact hi),mS,?_⟩;refine(?uY r (by ext rQ));ext rQ
 refine IT fun G1 e1 r1=>?_;intro sq;refine ?rV (fun σ' H'=>E4 ?gH ((∀a,a≠b->H' a=G1 a)) (?vD b (insAt ?r (?d di) ((bs.map ?a0).eraseIdx i))))
 . have hp1:G1 p=_:=(e1 _ pr).trans hp;have b1:G1 b=_:=(e1 _ rb.symm).trans xb.2.1;refine⟨_,rfl,p,Ad,dx,fs,_,rfl,hp1,?w,?jG,l2,?s4 b1,_,rfl,_,rfl,p,Ad,dx,fs,_,rfl,hp1,?w,?jG,l2,?s4 b1,_,rfl,b,_,_,i,_,rfl,rfl,b1,O9m,O9m,six _ (by rw[qa4,xb.1];exact hi),edi,?_⟩;refine(?uY b (by ext rR));ext rR
 refine IT fun G2 e2 b2=>?_;intro sq;have r2:=(e2 _ rb).trans r1;have zV:∀a,a≠r->a≠b->G2 a=G a:=fun a h1 h2=>(e2 a h2).trans (e1 a h1);have hp2:=(zV _ pr pb).trans hp;have qr:q≠r:=?tP lx.nr ?lT;have qb:q≠b:=?tP lx.nb ?lT;have q2:=(zV _ qr qb).trans y.st;obtain⟨ya,ma⟩:=xa.move hi hs rci r2 fun a ha=>zV a (na a ha).1 (na a ha).2.1;obtain⟨yb,mb⟩:=xb.move hi hs rdi b2 fun a ha=>zV a (?jU).1 ?o6;obtain⟨cs,_,ecs,_,hcs⟩:=?s8 ya.row ?e0
 have Am9:Lat.moveR s.1 i ?r ?r=s.1 i:=by
  rw[Lat.move_row];unfold Lat.mvI;rw[?fB,?eA]
 rw[Am9]at hcs;refine ?rV (fun σ' H'=>?iI/\SX Ad H0 H' p q M n W (?nW t ?r st) (i+1) (?qH))
 . refine⟨_,rfl,p,Ad,dx,fs,_,rfl,hp2,?w,?d0,l3,?s4 q2,_,rfl,_,rfl,p,Ad,dx,fs,_,rfl,hp2,?w,?aN,l1,_,rfl,r,_,_,_,rfl,rfl,.of r2,Bp (by rw[AO,Uz]at ecs;exact ecs),cs,W,st,_,rfl,hcs,hb,O9m,?_⟩;refine⟨q,_,?r,_,rfl,rfl,q2,by rw[Bv];exact hs,?c0 (?k5),?rW ?f1⟩;rw[GD hs];have qp:p≠q:=Eu hp y.st (by intro z;cases z);refine⟨⟨r,b,⟨⟨dx,fs,by rw[Aj qp];exact hp2,l1,l2,l3,l4,l5⟩,⟨_,ya.put qr.symm fun a ha z=>(?oF).2.2 ?oX,fun a ha=>?oF⟩,⟨_,yb.put qb.symm fun a ha z=>(?oO).2.2 ?oX,fun a ha=>?oO⟩,rb,lx.nr,lx.nb,?iK⟩,f1,f2⟩,Ab,fun a o e=>?_,y.fp,y.fq,y.mq,⟨qQ,qP,O9m⟩⟩
   . by_cases haq:a=q
     . rw[haq,Ab]at z;cases z
     . rw[Aj haq,zV a (fun e=>lx.nr ?p6) (fun e=>lx.nb ?p6)]at z;exact lx.nn a ha z
   . rw[Aj (Ao e y.fq),zV a (Ao e f1) (Ao e f2)];exact y.same _ _ e
 refine Hn fun G3 z=>?_;intro sq;obtain⟨r3,b3,l3x,_⟩:=z.ex;obtain⟨dx3,vM,hp3,l1,l2,l3,l4,l5⟩:=l3x.ob;obtain⟨as3,xa3,na3⟩:=l3x.rw;obtain⟨c3,_,ec3,_,hc3⟩:=?s8 xa3.row ?e0;have PK:(?qH).1 ?r=s.1 i:=Am9;rw[PK]at hc3
 have est:?nW t ?r st ?r=st:=by
  unfold Lat.insT;rw[?fB,?eA]
 refine⟨_,rfl,p,Ad,dx3,vM,_,rfl,hp3,?w,?aN,l1,_,rfl,r3,_,_,_,rfl,rfl,.of xa3.2.1,Bp ec3,_,rfl,p,Ad,dx3,vM,_,rfl,hp3,?w,?d0,l3,_,rfl,q,_,_,_,rfl,rfl,.of z.st,?j8,c3,_,_,_,rfl,rfl,hc3,Bp (by rw[est];exact Cm hb.2.2),_,_,rfl,rfl,_,rfl,?_⟩;refine ?lG
 . have h5:s.1 i st<0:=?hY
   refine⟨_,rfl,p,dx3,vM,rfl,hp3,?e4,_,rfl,?aT,?pI⟩;have s1:?g G3 (?hL):=?f9;have hT:?sT ?hL (.mi ?r):=⟨T1,_,rfl,?b2,⟨_,_,rfl,rfl,_,_,rfl,rfl,rfl⟩⟩
   generalize ?hL=G4 at s1 hT;refine⟨p,?dF,Ad,r3,b3,_,n,W,_,_,.mi ?r,rfl,?j6,l3x.keep s1,hT,?e0,?e0,O9m,O9m,fun r' b' G5 sx n1 n2 w=>?_⟩;refine k _ ?r st s hs hI hb hex ((z.redo s1 sx n1 n2 w).re ?_);rw[Lat.insS,?c7 (by rw[PK];exact h5)];rfl
 . have h5:¬s.1 i st<0:=?hY
   refine k _ ?r st s hs hI hb hex (z.re ?_);rw[Lat.insS,?a5 (by rw[PK];exact h5)]
noncomputable abbrev Yb:Stmt:=top 46
theorem P8:?D [?L,?fI,?kD,?dR,?dJ] ?iV (Au Yb):=Bh
theorem LC[?K](F:Er K ?gI ?gI Yb f fd)[?J](Ep:Has P w K mg ?e ?gC ?fL 6 (Fs K))(R7:Has P w K mg ?e ?p1 [?fI,"faces",?dJ] 2 (Sr K)):By P w K mg ?e Ej 7 f fd ?iV (AD K):=by
 refine ?sS P8;obtain⟨a,b,xs,ms,rfl,hL,hb,hm,h4,⟨kc,tP,hch⟩,kq⟩:=h;ext h3
 refine⟨_,(Af (B9 (Eh (D6 (?u5 Ep (Aa ?k (?rX ?o (?vQ 4)))))) ?jO Bo)
  (Af (?sH P8.nd Ix)
  (Af (Rw (B8 qb6 rfl (Pb ?o) (?tW (?vB 3 P8.nd) (?tI P8.nd)) (Ai (Bx (?u5 R7 (Aa ?s (Aa (?vT ?k ?y) ?d8)))))))
  (?vE ?s)))),?_⟩
 ext P
 refine⟨_,rfl,_,rfl,a,b,xs,4,ms,rfl,hL,hb,hm,?z,?l8⟩;have hany:((?hK 4).any ?kJ)=true:=qo9.mpr ⟨kc,qe5.mpr tP,hch⟩;refine ?c9;rw[hany];ext h7;have ZS:=?gM;have hb1:=?lR;refine ?bR;have DH:b≠D:=Ao hb1 hD;have s2:?g H1 (?pY):=?fN;have hL2:=?u s2 ZS;have hb2:=?v4 hb1;generalize zT:?pY=H2 at s2 hL2 hb2;have Op:H2 D=?c (.dK []):=by rw[←zT];exact Ab
 refine ?a8 ⟨b,?a9,hb2,?n9⟩;refine⟨_,rfl,b,o,?a9,rfl,Ab,?_⟩
 let Bc5:?bL:=fun i σ G=>Ij fun o1 o2=>B6 (σ=[?l,rS b,?I,o1,o2]) (G b=?c (?sI o)) (G D=?uP (?jZ)) ((∀c q,c≠b->c≠D->H2 c=?c q->G c=?c q))
 refine Vd (d:=b) (o:=o) (kvs:=?a9) Bc5
  ⟨?j,?j,rfl,Ab,?_,?_⟩ (fun i σ G _ hz=>by obtain⟨_,_,_,e,_⟩:=hz;exact e) ?_ ?_
 . rw[?e3];exact Op
 . intro c q n1 n2 e;rw[Aj n1];exact e
 . rintro i kk x σ G p hx C3 hp
   and_intros
   revert σ;refine ?eN;intro o1 o2 jN Ev tO Ei;obtain⟨q,hq,rfl,rfl⟩:=Oa hx;have npb:b≠p:=Ao jN hp;have npD:D≠p:=Ao Ev hp;have hlt:?n1:=?pH;have hqd:?hC=q:=by rw[qa7,hq];rfl
   have hpart:=qe1.mp hch q (qb0 hq)
   have hin:0<=q.1/\q.1<?nE:=by
    unfold Mq at hpart;rw[qc2]at hpart;exact EB hpart.1
   have sp:?tE G G:=?h1
   have HH:LT K G ?g2 xs:=by
    have e1:M4 b H2 (?uW o):=fun c r n e=>?nN
    have l1:=Rep.x e1 hb2 hL2;have d1:(?uW o) D=?c (.dK []):=by rw[?e3];exact Op
    have e2:M4 D (?uW o) G:=fun c r n e=>by
     by_cases z:c=b
     . subst z;rw[Ab]at e;cases e;exact jN
     . rw[Aj z]at e;exact tO c r z n e
    exact Rep.x (m:=[]) e2 d1 l1
   obtain⟨us,v,mR,hat,tv⟩:=LT.get (?u sp HH) hin.1 hin.2;ext kM
   have hfl:(?qT).length<=4:=by
    rcases I0 (l:=xs) (i:=?oU) (d:=[]) with z | z
    . exact h4 _ z
    . rw[z];exact ?dV
   have hbl:=aL h4 ms i;refine⟨_,rfl,_,rfl,_,rfl,a,us,_,v,rfl,rfl,mR,hat,_,rfl,D,v,?jZ,?qT,q.2,rfl,sp _ _ Ev,tv,O9m,fun G2 sG2 EX=>?_⟩;refine⟨_,_,rfl,sG2 _ _ DH (sp _ _ jN),?_,fun c r n1 n2 e=>?_⟩
   . rw[EX];show _=?c (HO.dK (cK (IL (?jZ) (?dH (?hC).1.toNat []) (?hC).2)));rw[hqd]
   . exact sG2 c r n2 (sp _ _ (tO c r n1 n2 e))
 . ext eH;refine ?eN;intro o1 o2 jN Ev tO Ei;rw[Mb]at Ev;refine⟨jN,_,rfl,kq D _ (s1.free hD) (fun c q e=>?_) (by rw[?e3];exact Ev)⟩;by_cases z:c=b
   . subst z;rw[hb]at e;cases e;exact Ab
   . rw[Aj z];exact tO c q z (Ao (s1 _ _ e) hD) (?v4 (s1 _ _ e))
noncomputable abbrev Uh:Stmt:=top 57
theorem Nb:?D [?V,?aA,"lines","stairs","i",?e6] ?jI (Au Uh):=Bh
theorem GP[?K](F:Er K ?gT ?gT Uh f fd)[?J](U4:fV P w K mg ?e Ad ?dD 2 (?rY dS))(Kv:?uR P)(Jr:K5 P w K mg ?e Ad ?k8 ?e9 6 (?rY X0))(Jq:K5 P w K mg ?e Ad ?j3 ?a4 5 (?rY Xz)):By P w K mg ?e Ej 7 f fd ?jI (?rY V1):=by
 refine ?sS Nb;obtain⟨v,L,r,b,sv,N,n,w,M,P,PB,J,rfl,hv,lx,hn,hw,TJ,j0,jt,k⟩:=h;obtain⟨ta,us,rfl,Ww,V7,N2⟩:=Hk hv;ext d9;obtain⟨ps,xp,np⟩:=lx.rw;obtain⟨bs,xb,nb⟩:=lx.bk;have nN:∀a,?dQ->¬N a:=fun a e z=>lx.nn a z e
 refine⟨_,(Af (Av (i:=3) Nb.nd (Mp U4 hr ?i T.m_Stairs (Aa (Cc (N':=[?fQ,"paper"]) (cap:=[none,none]) ?i ?b1 (bP (K:=K) ?i T.n_zip (?rX ?k (Az (K:=K) ?s))) (?rZ (?tW (?vB 0 OH) (?vB 1 OH))) ?b3 (?rZ (Bq (U2 (K:=K)) ?k ?o))) (?vA (?uI (Aa (?s8 Az ?s) Ae))))))
  (Af (B8 qb6 rfl (Ci ?i ?b0 (?vA (?s2 ?cI))) (?tI Nb.nd) (Af (Bx (Dh ?y ?w Jr hr ?d8))
  (Ai (Bx (Mo ?y ?w Jq hr)))))
  (Af (Av (i:=5) Nb.nd (Mp Kv hr ?i T.m_Lines (Aa (Cc (N':=?pK) (cap:=?oW) ?i ?b1 (?s8 Cd (Az (K:=K) ?y)) (?rZ (?uG OG)) ?b3 (?rZ (Eo ?d1 ?k (E9 ?o) Gf))) (?vA (?s8 Az ?y)))))
  (?vE (D7 (Aa (Cc (N':=?pK) (cap:=?oW) ?i ?b1 (?s8 Cd (Az (K:=K) ?y)) (?rZ (?uG OG)) ?b3 (?rZ (Eo ?d1 ?k Gf (E9 ?o)))) ?b7)))))),?_⟩
 ext P
 refine ?rV (fun σ' H'=>Ij fun p q=>σ'=[?bK,?aJ,rS L,?n,none,none]/\SX Ad H H' p q (fun a=>?gA) n ?cU (fun _=>0) 0 (?mZ,PB))
 . refine⟨_,rfl,_,rfl,L,Ag,dx,fs,_,rfl,hp,?aV,?iC,l1,ta,r,rfl,⟨_,Ww⟩,⟨_,?pL⟩,?bR⟩
   refine AW (K:=K) (a:=ta) (b:=r) (xs:=us) (ys:=ps.map ?a0) (n:=n) (by rw[V7,qa4,xp.1,qw5]) (fun i zs τ H1=>Es fun cs=>B6 (zs=cs.map ?a0) (cs.length=i) (Rows H H1 D cs ?cU (?mZ)) (Ij fun o1 o2=>τ=[o1,o2]))
    ⟨[],rfl,rfl,?jK hD,?j,?j,rfl⟩ (fun i zs τ H1 _ hz=>by obtain⟨cs,_,_,R,_⟩:=hz;exact⟨?bU Ww,?bU (?pL)⟩) ?_ ?_
   . rintro i x y zs τ H1 pr hx hy ⟨cs,rfl,hcl,R,o1,o2,rfl⟩ hpr;obtain⟨hi,bx,rfl,hbx⟩:=N2 i x hx;obtain⟨cy,_,ey,_,hcy⟩:=?s8 xp.row hi;rw[ey]at hy;cases hy;have sp:?g H1 (?sM cy):=?t hpr;refine(?sX pr);refine⟨_,rfl,_,rfl,bx,cy,_,_,rfl,rfl,sp.seq (?bU hbx),sp.seq (?bU hcy),B7 (by rw[Bv,Bv];omega),?h9⟩;have sE:?g (?sM cy) (upd (?sM cy) E (?m (VI w (M i)++VI n (P i)))):=?t hE;refine⟨sE _ _ (sp _ _ R.at),?fA,cs++[E],?jV,?oY,?_,_,_,rfl⟩;refine ?k4 (sp.free hE) (?mJ sE) ?_;rw[hcl,Ab,IM (h:=?qY w M P i) (fun c hc=>Lat.beside_lo hc) (fun a _=>Lat.beside_hi w M P i a)]
   rintro zs τ H1 ⟨cs,rfl,hcl,R,_⟩;have hp1:=?nY;refine⟨_,rfl,L,Ag,dx,fs,_,rfl,hp1,?aV,?iR,l2,b,_,rfl,?p (.of (?aH _ _ xb.2.1)),fun B hB=>?_⟩;intro p qT np' UX XD;have s2:?g H1 (?lS):=?t hB;have hB2:upd H1 B (?m (bs.map ?a0)) B=?u3 (bs.map ?a0):=Ab;generalize ?lS=H2 at s2 hB2 np' UX;have s3:?g H2 (?q6):=?f5 np';have s03:=(?fM s2).trans s3;have f2:∀a,?v6 H2 a->?dQ:=fun a e=>(?fM s2).free e;refine⟨p,qT,_,_,rfl,Ab,fun q H4 fs' hq hfs sx hq4 Qd=>?f1⟩;generalize ?q6=H3 at s3 s03 hq sx;have f3:∀a,?v6 H3 a->?dQ:=fun a e=>s03.free e;have st:∀a o,H2 a=?aO->?o5:=?t1 np';have xc:=(?hT s2)
   have QW:TA H2 B bs n n PB:=⟨xb.1,hB2,fun i c e=>?v4 (?aH _ _ (xb.2.2 i c e))⟩
   have hHB:?v6 H B:=?l3 hB;have A87:=?v4 R.at
   have q2:?v6 H2 q:=s3.free hq;have nM:∀a,H2 a≠none->¬N a->¬(?gA):=fun a h1 h2 h3=>h3.elim (?tP h1 (z▸q2)) h2;refine ?rW ⟨p,q,rfl,⟨⟨D,B,⟨⟨qT,fs',Qd,?_,?_,?_,?jB,?_⟩,⟨cs,xc.same st,?dG⟩,⟨bs,QW.same st,?dG⟩,?_,?_,?_,?iK⟩,?dB,hHB⟩,hq4,fun a o e=>?lC,f2 _ np',f3 _ hq,?cQ,⟨O9m,O9m,?dV⟩⟩⟩
   . rw[hfs];ext aF
   . rw[hfs];ext aF
   . rw[hfs];ext aF
   . rw[hfs,Aq,?cG,Aq,?cG,Aq,?cG];rfl
   . rw[hfs];exact qa6 (Cb _ _ _) (qa6 (qi4 (Cb _ _ _)) (qa6 (qi4 (qi4 (Cb _ _ _))) ?aZ))
   . ext rF;exact⟨z2,Ao z3 hB,nM _ (by rw[?v4 z3];ext h6) (nN _ z1)⟩
   . have:=?mA a ha;refine⟨?tP this ?hX,?tP this (z▸hHB),nM a (QW.there.2 a ha) ?pV⟩
   . exact Ao R.at hB
   . exact nM D (by rw[A87];ext h6) (nN _ ?dB)
   . exact nM B (by rw[hB2];ext h6) (nN _ hHB)
   . rcases ha with rfl | ha
     . rw[hq4]at z;cases z
     . cases e:H a with
       | none=>exact ?mD
       | some o=>rw[?lC]at z;cases z
 refine IS fun p q H1 x0=>?_;intro sq;refine ?rV (fun σ' H'=>?vI (?uQ H' n) n)
 . refine⟨_,rfl,ta,us,rfl,?p (x0.same.seq Ww),_,rfl,O9m,O9m,?_⟩;refine Ck (lo:=0) (n:=(?mQ:Int).toNat) (fun i σ' G=>?vI (?uQ G i) i) ⟨?j,_,_,rfl,x0,j0 _⟩ ?_ ?_
   . rintro i σ G hi C3;revert σ;refine VE ?_;intro o4 t s y hJ Ei;rw[qe6,V7]at hi;rw[qo5];obtain⟨I,hP,hD⟩:=TJ.step i t s hi hJ;obtain⟨r3,b3,ly,_⟩:=y.ex;obtain⟨dx3,vM,hp3,_,_,_,m4,_⟩:=ly.ob;refine⟨_,rfl,p,dx3,vM,rfl,hp3,?nG,_,rfl,H,p,q,_,n,w+n,t,i,s,I,rfl,y,hi,hP,jt i t s hJ,fun G1 spot st s' hs hI hb hex z=>?_⟩;obtain⟨d1,d2⟩:=hD ?r st s' hs hI hb hex;obtain⟨r4,b4,lz,_⟩:=z.ex;obtain⟨dx4,fs4,Qd,_,_,_,m5,_⟩:=lz.ob;refine⟨_,rfl,p,dx4,fs4,rfl,Qd,?qB,H,p,q,_,n,w+n,_,i,_,rfl,z,d1,fun G2 z2=>?_⟩;exact⟨_,_,_,rfl,z2,d2⟩
   . ext eH;refine VE ?_;intro o4 t s y hJ Ei;rw[qe6,V7]at y hJ;exact ?rW ⟨o4,t,s,rfl,y,hJ⟩
 refine UM fun o4 t s G y hJ=>?_;intro sq;obtain⟨r,b,ly,f1,f2⟩:=y.ex;obtain⟨dx,fs,hp,l1,l2,l3,l4,l5⟩:=ly.ob;obtain⟨as,xa,na⟩:=ly.rw;obtain⟨bs,xb,nb⟩:=ly.bk;have s0:=y.same;refine ?rV (fun σ' H'=>Ij fun(L' E:Addr)=>Dp (σ'=[?bK,?aJ,rS L,?n,o4,rS L']) (?uL G) (?v6 H L') (?v6 H E) (LX H' Ag L' E b ?j n n ?h8 N))
 . refine⟨_,rfl,p,Ad,dx,fs,_,rfl,hp,?w,?aN,l1,r,rfl,⟨_,?bV⟩,?h9⟩;have xa':=?g1
   let Bc4:?bB:=?s6 (Rows G G1 E cs n (?qU))
   refine ?sC Bc4 ⟨[],rfl,rfl,?jK hE,?j,rfl⟩
   . ext rE
     ext rJ;refine(?t0 hc);have sF:?g G1 (?t2 ?mO ?j):=?t hF;ext rD;rw[hcl,Ab,UH]
   ext rM;have hp1:=?nY;refine⟨_,rfl,p,Ad,dx,fs,_,rfl,hp1,?w,?jG,l2,?_⟩;intro L' CJ nL UX XD;have s3:?g G1 (?iJ):=?f5 nL;refine⟨L',CJ,Ag,_,_,rfl,?cQ,Ab,fun H4 fs' hfs hH4=>?f1⟩;have sx:?c2 L' (?iJ) H4:=by rw[hH4];exact ?dN (?f0)
   have hL4:H4 L'=?c (?M Ag CJ fs'):=by rw[hH4];exact Ab
   clear hH4;generalize ?iJ=G3 at s3 sx;have st:∀a o,G1 a=?aO->?o5:=?t1 nL;have nN':∀a,?v6 G a->¬N a:=fun a e=>nN a (?iX e);refine ?rW ⟨L',E,rfl,?fM st,?iX (?l3 nL),?iX ?dB,⟨⟨CJ,fs',hL4,?_,?_,?_,?jB,?_⟩,⟨cs,?hT st,?dG⟩,⟨bs,(xb.same ?aH).same st,?dG⟩,?_,nN' _ ?dB,?_,?iK⟩⟩
   . rw[hfs];ext aF
   . rw[hfs];ext aF
   . rw[hfs];ext aF
   . rw[hfs,Aq,?cG,Aq,?cG];rfl
   . rw[hfs];exact qa6 (Cb _ _ _) (qa6 (qi4 (Cb _ _ _)) ?aZ)
   . ext rF;exact⟨z2,?tP ?pX (z▸z1),nN' _ z1⟩
   . exact⟨fun z=>?mA a ha ?hX,?o6,?tP ?pV (?a8 z)⟩
   . exact ?tP ?pX ?hX
   . exact ?tP ly.nb (?a8 z)
   . cases e:H a with
     | none=>exact ?mD
     | some o=>rw[st _ _ (?aH _ _ (s0 _ _ e))]at z;cases z
 refine iR fun L' E G4 s4 fL fE lx4=>?_;intro sq;have Qd:=s4 _ _ hp;have xa':=s4 _ _ ?g1;refine⟨_,rfl,p,Ad,dx,fs,_,rfl,Qd,?w,?aN,l1,r,rfl,(?vM xa'),?bR⟩
 let Bc3:?bB:=?s6 (Rows G4 G1 D cs w (fun x a=>s.1 x a))
 refine ?sC Bc3 ?l0
 . ext rE
   ext rJ;refine(?t0 (s4.seq hc));have sF:?g G1 (?t2 ?j ?mO):=?t hF;ext rD;rw[hcl,Ab,Ao1]
 ext rM;refine⟨_,rfl,?aT,?p8⟩;have s5:?g G1 (upd G1 tp (?B ?nU)):=?t htp;have UR:=?fM s5;exact k tp D L' E b cs t s _ ((s0.trans s4).trans UR) hJ (?b2) (?hT s5) (lx4.keep UR) ((s0.trans s4).free ?dB) fL fE f2
noncomputable abbrev Kl:Stmt:=top 49
theorem Ji:?D [?L,"k","below","columns"] ?gJ (Au Kl):=Bh
theorem Wr[?K](F:Er K ?gD ?gD Kl f fd)[?J][?rP][?kL][?eF](Pp:Has P w K mg ?e ?nO ["spots",?fI] 1 (Qv K))(CG:Has P w K mg ?e ?gI ?iV 7 (AD K)):By P w K mg ?e Ej 8 f fd ?gJ (Od K):=by
 refine ?sS Ji;obtain⟨a,xs,k,rfl,hL,Jv,h4,h0,h5,kq⟩:=h;ext h3
 refine⟨_,(Af (Bx (?u5 Fp (?rX ?o (?vF (?vQ 4)))))
  (Af (Av (i:=2) Ji.nd (?u5 Bt (?rX ?k (Bq Jn ?o Ak))))
  (Af (bN (N':=[?dR,"below",?L]) (cap:=[none,?c 2,?c 0]) (i:=3) Ji.nd ?i (by ext rT) ?i ?b1 (?s8 Cd (?u5 Bt ?e8)) (?rZ (?uG xJ)) ?b3 (fun _ _ _ _=>(?u5 Pp (?rX ?o (An CG hr (Aa ?s (?vA (SD (NO ?k Ak RT) ?i ?i (by intro z;cases z) (Nat.le_of_ble_eq_true rfl)))))))))
  (?vE (?u5 Cv (?rX ?y (?vV ?b5))))))),?_⟩
 ext P
 refine⟨_,rfl,_,_,rfl,rfl,k,5,rfl,h0,h5,?_⟩;refine ?sE [?l,?Z,none,none];ext cE;refine ?rV (fun σ' H'=>Es fun(B:Addr)=>E4 (σ'=[?l,?Z,rS B,none]) ?e2 (?vD B ((?dI).map ?aK)))
 . refine⟨_,rfl,_,rfl,_,_,rfl,rfl,a,k-1,xs,rfl,hL,Jv,fun B H1 hB s1 hB1=>?_⟩;exact ?rW ⟨B,rfl,s1,hB1⟩
 refine Xm fun B H1 s1 hB=>?_;intro sq;have ZS:=?gM;have bl:?f4<=1000:=?oZ;have cl:?fK<=1000:=?oZ;refine ?rV (fun σ' H'=>Ij fun ?mC ?iZ=>E4 (σ'=[?l,?Z,rS B,?aG]) (as.length=?fK) (Rows H1 H' C as ?f4 (?uF 0)))
 . refine⟨_,rfl,_,rfl,a,k,xs,rfl,ZS,Jv,fun P H2 hP s2 hP2=>?_⟩;refine⟨P,rfl,(?vM hP2),?bR⟩
   let Bc2:?bB:=fun i ys τ G=>Es fun ?iZ=>B6 (as.length=i) (ys=?e7) (Rows H2 G D as ?f4 (?uF 0)) (?tA [o,rS B,?l])
   refine Cp (K:=K) (a:=P) (xs:=(?fZ).map ?aK) Bc2
    ?l0 (fun i ys τ G _ hz=>by obtain⟨_,_,_,R,_⟩:=hz;exact ?s5 ?aH hP2) ?_ ?_
   . rintro i x ys τ G hx ⟨as,hal,rfl,R,o,rfl⟩;have hi:i<?fK:=by have:=?r6;simpa using this
     have hxv:x=?f (?k3):=by
      rw[qa9,?cZ]at hx;rw[qa7,?cZ];simpa using hx.symm
     subst hxv
     have hmem:?k3∈?fZ:=by
      rw[qa7,?cZ];exact qe4 hi
     obtain⟨q0,q1,q2⟩:=Gg hmem;generalize hpe:?k3=pl at q0 q1 q2;have A50:Ic [] [(Sum.inl pl,?aK 1)]=cK ?bZ:=rfl;have sG:=?eB ?aH;refine⟨_,rfl,_,rfl,fun e he=>⟨_,rfl,Ab,[(Sum.inl pl,?aK 1)],rfl,?aW,?_⟩⟩;rw[A50]
     have e3:upd (upd G e (.dK [])) e (.dK (cK ?bZ))=?eL:=by
      funext b
      by_cases hb:b=e
      . subst hb;rw[Ab,Ab]
      . rw[Aj hb,Aj hb,Aj hb]
     rw[e3];have g1:?g G (?eL):=?t he;have he1:(?eL) e=?uP ?bZ:=Ab;generalize ?eL=G1 at g1 he1
     have yE:?lM<=4:=by
      rcases I0 (l:=xs) (i:=pl.toNat) (d:=[]) with z | z
      . exact h4 _ z
      . rw[z];exact ?dV
     have Zc:N8 xs k ?bZ=true:=by
      unfold N8 Mq;rw[List.all_cons,List.all_nil,Bool.and_true,qc2];refine⟨?_,?aW⟩;show(?i6 (0<=pl)&&?i6 (pl<?nE)&&?i6 (Di ?lM=k))=true;rw[qf8 q0,qf8 q1,qf8 q2];rfl
     have hk3:k<4:=by
      rw[←q2];unfold Di;split<;>omega
     refine⟨a,e,xs,?bZ,rfl,?u (sG.trans g1) ZS,he1,?aW,h4,⟨k.toNat,O9m,by rw[?m9];exact Zc⟩,fun E2 G2 YK g2 A89=>?_⟩;refine⟨B,E2,?dI,Dz xs ?bZ,rfl,?s5 ((sG.trans g1).trans g2) hB,?p A89,bl,fun D2 G3 Op g3 AR=>?_⟩;have gG:=(?g4).trans g3;refine⟨gG _ _ R.at,?fA,as++[D2],by simp[hal],?jV,?k4 ((?g4).free Op) gG ?_,_,rfl⟩;rw[AR,SY,hal,hpe]
     congr 3
     apply AJ;intro i' _;exact Z2 xs pl _
   . rintro ys τ G ⟨as,hal,rfl,R,_⟩;rw[qa4]at hal;exact ?rW ⟨D,as,rfl,hal,R.earlier s2⟩
 refine mV fun C as H2 hal R=>?_;intro sq;refine⟨_,rfl,_,rfl,B,_,rfl,?p (?s5 ?aH hB),?d C,?fK,?f4,_,by rw[qa4];rfl,R.rep hal,cl,bl,fun D IK H3 yH R3=>?_⟩;exact kq D IK H3 yH (R3.earlier (?aB ?aH))
noncomputable abbrev O6:Stmt:=Ex ?h0 2
theorem Jx:?tS [?Q,"height","by_rows","by_columns"] O6:=Bh
theorem bR[?K](F:Er K ?i1 ?pP O6 f fd)[?J](Tj:Has P w K mg ?e ?gT ?jI 7 (?rY V1))[?eF]:?u1 8 DS:=by
 refine ?sS Jx;obtain⟨H0,p,L,R,nm,n,w,M,l,r,ns,Nx,rfl,x,ok,k⟩:=h;obtain⟨qQ,qP⟩:=x.sm;ext kK;ext kN
 ext h5
 obtain⟨ta,us,rfl,hq,V7,_⟩:=Hk hrep;obtain⟨J1,T1,j10,j1t,j1n⟩:=ok.ex;have Aj8:=?hM
 replace hq:=?qG
 refine⟨_,(Af (Av (i:=1) Jx.nd ?eT)
  (Af (?sH Jx.nd (?u5 Tj (Aa ?R (Aa ?R ?bT))))
  (Af (?vK Jx.nd (?u5 Tj (Aa (?vW ?bO ?bT) (Aa ?o ?bT))))
  (Af (?sL (?vW (?u0 ?y) ?a7))
  (Af (?sL ?bO)
  (Ai (?sL (?u0 ?y)))))))),?_⟩
 ext P
 refine ?rV (?u7 [?n,?iH,none,none] ?cA)
 . refine⟨_,rfl,p,Ah,dx,fs,_,rfl,hp,?q,?bY,l1,ta,us,rfl,?p hq,?rW ⟨by rw[V7];rfl,rfl⟩⟩
 ext cE;refine ?rV (fun σ' H'=>vZ fun(tp D L' r1' vP:Addr) ?iZ ?iN ?iU=>fW (σ'=[?n,?iH,?S,none]) ?e2 (J1 n t s) (Dl K H' tp ?nU) (TA H' D as n w s.1) (?uH L' ?h8) (?v6 H L') (?v6 H r1') (?v6 H vP))
 . refine⟨_,rfl,p,Ah,dx,fs,_,rfl,hp,?q,?bY,l1,_,rfl,p,Ah,dx,fs,_,rfl,hp,?q,?iM,l2,_,rfl,p,Ah,dx,fs,_,rfl,hp,?q,?cR,l3,?iG,L,r1,b1,?j,_,n,w,M,l.1,l.2,J1,rfl,Aj8,lx,qQ,qP,T1,j10,j1t,fun tp D L' r' b' as t s H1 s1 hJ hT xD lx1 _ fL fr fb=>?_⟩;exact ?rW ⟨tp,D,L',r',b',as,t,s,rfl,s1,hJ,hT,xD,lx1,fL,fr,fb⟩
 refine UL fun tp D L' r1' vP as t s H1 s1 hJ hT xD lx1 fL fr fb=>?_;intro sq;obtain⟨J2,T2,j20,j2t,j2n⟩:=j1n t s hJ;have hp1:=?iF;refine ?rV (fun σ' H'=>vZ fun(wJ D2 R' r2' qU:Addr) (IK:?qX) (t2:?lV) (s2:?bI)=>fW (σ'=[?n,?iH,?S,rS wJ]) (?uL H1) (J2 w t2 s2) (Dl K H' wJ [?dW,?d R']) (TA H' D2 IK w n s2.1) (LX H' Ag R' r2' qU ?j w w (fun x a=>s2.1 x (n+a),s2.2) (?eZ)) (?v6 H1 R') (?v6 H1 r2') (?v6 H1 qU))
 . refine⟨_,rfl,tp,_,_,_,rfl,rfl,hT,rfl,_,rfl,p,Ah,dx,fs,_,rfl,hp1,?q,?iM,l2,?d D,n,w,s.1,rfl,xD.rep,O9m,O9m,fun F fas H2 hl2 R2=>?_⟩;have hp2:=?dP _ _ hp1;refine⟨_,rfl,_,rfl,p,Ah,dx,fs,_,rfl,hp2,?q,?eD,l4,?d F,R,r2,b2,?j,_,w,n,(fun i j=>s.1 j i),r.1,r.2,J2,rfl,R2.rep hl2,ly.keep (?aB ?dP),qP,qQ,T2,j20,j2t,fun wJ D2 R' r' b' IK t2 s2 H3 s3 hJ2 hT2 xD2 XO _ fR tU fb2=>?_⟩;exact ?rW ⟨wJ,D2,R',r',b',IK,t2,s2,rfl,?jN s3,hJ2,hT2,xD2,XO,?jA fR,?jA tU,?jA fb2⟩
 refine UL fun wJ D2 R' r2' qU IK t2 s2 H3 s3 hJ2 hT2 xD2 XO fR tU fb2=>?_;intro sq;have hp3:=s3 _ _ hp1;have hT3:=s3.seqT hT;refine⟨_,rfl,wJ,_,_,_,rfl,rfl,hT2,rfl,_,rfl,?dW,w,n,s2.1,rfl,xD2.rep,O9m,O9m,fun E eas H4 yE R4=>?_⟩;have RJ:=R4.same;have Qd:=RJ _ _ hp3;have uS:?g H0 H4:=((x.same.trans s1).trans s3).trans RJ;have n4:=(?aB ?nT) _ _ x.nu;have Ay6:Rep K (Th H4 ?eZ) (?d E) (dT n w fun i j=>s2.1 j i):=R4.hid yE fun a ha z=>by cases ha;rw[(?aB s3) _ _ x.nu]at z;cases z
 have hT4:=RJ.seqT hT3;have A74:=RJ.seqT hT2
 have ex:∀a,?kZ->H4 a≠none:=fun a ha=>by
  rcases ha with rfl | rfl | rfl
  . rw[n4];ext h6
  . obtain⟨_,z,_⟩:=XO.rw;exact ?pC
  . obtain⟨_,z,_⟩:=XO.bk;exact ?pC
 have z1:LX H4 Ag L' r1' vP ?j n n ?h8 (fun a=>?kZ):=lx1.more ?nT (fun a ha=>by
  rcases ha with rfl | rfl | rfl
  . exact ?p (?cQ)
  . exact ?a8 tU
  . exact ?a8 fb2) ex
 have z2:=XO.keep RJ;have sR:p≠L':=Ao hp fL;have uX:p≠R':=Ao hp1 fR;have LR:L'≠R':=fun z=>by obtain⟨_,_,q,_⟩:=lx1.ob;rw[z,fR]at q;cases q
 refine⟨_,rfl,p,Ah,dx,fs,rfl,Qd,?q,?bY,O9m,?_⟩;have wN:?c2 p H4 (?hF):=?f0;have EW:upd H4 p (?sP E) p=?c (?sP E):=Ab;have zO:Kp H4 (?hF):=Kp.upd;have e1:?oC=fs.length:=Mm l1;generalize ?hF=H5 at wN EW zO;have hT5:=iY hT4 Qd wN;have A73:=iY A74 Qd wN;refine⟨_,rfl,tp,_,_,_,rfl,rfl,hT5,rfl,_,rfl,p,Ah,dx,_,rfl,EW,?q,?cR,O9m,?_⟩;have e2:?lF=?oC:=Mm (x:=?d L) (by rw[Aq,?fU];exact l3);have DO:?c2 p H5 (?iS):=?f0;have hp6:upd H5 p (?v5 E) p=?c (?v5 E):=Ab;have kp6:Kp H5 (?iS):=Kp.upd;generalize ?iS=H6 at DO hp6 kp6;refine⟨_,rfl,wJ,_,_,_,rfl,rfl,iY A73 EW DO,rfl,_,rfl,p,Ah,dx,_,rfl,hp6,?q,?eD,O9m,?_⟩;have e3:(?H ?dU (?a0 R') (?qE)).length=?lF:=Mm (x:=?d R) (by rw[Aq,?fU,Aq,?fU];exact l4);have sx:?c2 p H4 (?uJ p):=?dN (wN.trans DO);have kp:Kp H4 (?uJ p):=(zO.trans kp6).trans Kp.upd;have g0:∀a,?dQ->?kW:=fun a e=>x.same.free e;have g1:∀a,?o3->?kW:=fun a e=>?i3 e;have npn:nm≠p:=Eu x.nu hp (by intro z;cases z)
 refine k L' R' _ _ _ _ (j2n t2 s2 hJ2) ⟨⟨?d E,dx,_,Ab,?_,?_,?_,?_,?_,?jB,O9m,fun M' e=>by
  cases e
  exact Ba9 (p:=p) (dx:=dx) (C:=Ah) Ay6 (by rw[Ze npn.symm];exact Qd) (fun a o ne e=>by
   by_cases z:a=nm
   . rw[lP z]at e;cases e
   . rw[Ze z]at e ⊢;exact sx _ _ ne e)⟩,⟨r1',vP,r2',qU,z1.x Qd sR sx kp,z2.x Qd uX sx kp,g0 _ fr,g0 _ fb,g1 _ tU,g1 _ fb2⟩,sx _ _ npn n4,sx.same uS x.fr.1,⟨x.fr.1,g0 _ fL,g1 _ fR,?kX⟩,⟨sR,uX,LR⟩,⟨qQ,qP⟩⟩
 . ext aF
 . ext aF
 . ext aF
 . ext aF
 . ext aF
 . iterate 3 rw[Aq,?cG]
   exact l6 m hm
noncomputable abbrev Hg:Stmt:=Ex ?h0 1
theorem Kj:?tS ?e9 Hg:=Bh
theorem R6[?K](F:Er K ?k2 ?mK Hg f fd)[?J](Li:K5 P w K mg ?e Ah ?i1 ?a4 8 (?rY DS))(N3:Has P w K mg ?e ?l9 [?V] 1 (Of K)):?u1 9 Ow:=by
 refine ?sS Kj;obtain⟨H0,p,L,R,nm,n,w,M,l,r,U,rfl,x,ok,nx,k⟩:=h;have sm:=x.sm;obtain⟨_,dx,fs,hp,_,_,_,_,_,l6,_⟩:=x.ob
 refine⟨_,(Af (?t6 ?k Li)
  (Af (S4 qb6 (?sA N3 ?bT) (Ai (?t6 ?k Li)))
  (Ai (B8 qb6 rfl (?sV (?vA (Bc (mG ?i) T.n_min MJ (Aa ?eT ?bT)))) (?vB 1 Kj.nd) (Ai (B9 (?tR Iy (?vT ?b6 ?o)) (Ai (?tT ?R (?vT ?b6 ?o))) Bo)))))),?_⟩
 ext P
 refine ?rV (fun σ' H'=>?eW/\∃L R m M l r,?iQ/\?p0)
 . exact⟨_,rfl,p,dx,fs,rfl,hp,?r5,H0,p,L,R,nm,n,w,M,l,r,[],_,rfl,x,ok,fun L' R' M' l' r' H' ⟨m,hu⟩ y=>?rW ⟨rfl,L',R',m,M',l',r',hu,y⟩⟩
 refine Hn fun H1 DJ=>?_;intro sq;obtain⟨L,R,m,M,l,r,hU,x⟩:=DJ;clear ok hp l6;refine ?rV (fun σ' H'=>?eW/\∃L R m M l r,?iQ/\Lat.Straight n w M/\?p0)
 . refine⟨fun m σ' G=>?eW/\∃L R M l r,?iQ/\?u9 G,⟨m,rfl,L,R,M,l,r,hU,x⟩,?_⟩;rintro m σ G C3;refine tD ?_;intro _;obtain⟨rfl,L,R,M,l,r,hU,x⟩:=C3;ext kK
   ext h5
   refine⟨_,rfl,p,Ah,dx,fs,_,rfl,hp,?q,?bY,l1,tv,n,w,M,rfl,?hM,O9m,O9m,?mU,?mU⟩
   . ext h7;exact ?rW ⟨rfl,L,R,m,M,l,r,hU,hS,?o2⟩
   . refine cC (?aW) ?_;refine⟨fun σ' G'=>?eW/\∃L R m' M l r,m'<m/\U m' M l r/\?u9 G',?_,?_⟩
     . rintro σ' G' ⟨rfl,L,R,m',M,l,r,hm,hU,y⟩;exact⟨m',hm,rfl,L,R,M,l,r,hU,y⟩
     . exact⟨_,rfl,p,dx,fs,rfl,?iF,?r5,H0,p,L,R,nm,n,w,M,l,r,[],_,rfl,?o2,nx m M l r hU hS,fun L' R' M' l' r' H' ⟨m',hm,hu⟩ y=>⟨rfl,L',R',m',M',l',r',hm,hu,y⟩⟩
 refine Hn fun H2 DJ=>?_;intro sq;obtain⟨L,R,m,M,l,r,hU,hS,x⟩:=DJ;ext kK
 ext h5
 obtain⟨ta,us,rfl,hq,V7,N2⟩:=Hk hrep
 replace hq:=?qG
 have emin:?pT=min n w:=?kG
 refine⟨_,rfl,p,Ah,dx,fs,_,rfl,hp,?q,?bY,l1,ta,us,rfl,?p hq,_,rfl,p,Ah,dx,fs,_,rfl,hp,?q,?iM,l2,_,_,rfl,_,rfl,?kG,?kG,?_⟩;refine Ck (lo:=0) (n:=?pT) (fun i σ' G=>Es fun o1=>σ'=?pJ/\WX K Ag Ah H0 G p L R nm n w ?gW l r (MQ i M)) ?mX ?_ ?_
 . clear hp hrep hq N2 l1 l2 l3 l4 l5 l6 l7;rintro i σ G hi ⟨o1,rfl,y⟩;rw[emin]at hi;rw[qo5];obtain⟨tv,dx,fs,hp,l1,l2,l3,l4,l5,l6,l7,hrep⟩:=y.ob
   ext h5
   obtain⟨ta,us,rfl,hq,V7,N2⟩:=Hk (?hM);have e:=qa0 (l:=us) (i:=i) O9m;obtain⟨_,b,eb,hb⟩:=N2 i _ e;rw[eb]at e;refine⟨_,rfl,p,Ah,dx,fs,_,rfl,hp,?q,?bY,l1,_,rfl,ta,_,_,_,rfl,rfl,hq,Bp e,_,rfl,b,_,_,_,rfl,rfl,hb,?j8,rfl,_,rfl,?_⟩;ext h2
   . have h0:¬M i i=0:=?bQ
     refine⟨_,rfl,p,Ah,dx,fs,_,rfl,hp,?q,?bW,l5,?s4 y.nu,_,rfl,p,Ah,dx,fs,_,rfl,hp,?q,?bY,l1,_,rfl,ta,_,_,_,rfl,rfl,hq,Bp e,_,rfl,b,_,_,_,rfl,rfl,hb,?j8,nm,_,_,rfl,rfl,y.nu,?_,?_⟩
     . have:=sP i M;exact ?fA
     . have z:=y.num (ns':=MQ (i+1) M);rw[Pj,?a5 h0,qb5]at z;exact⟨_,rfl,by rw[Pj,?a5 h0];exact z⟩
   . have h0:M i i=0:=?bQ
     exact⟨_,rfl,by rw[Pj,?c7 h0];exact y⟩
 . ext eH;ext kT;rw[emin]at y;exact k L R m M l r _ hU hS y
noncomputable abbrev Rr:Stmt:=top 62
theorem La:?D [?V,?aA,"work","left_back",?dU] ?eM (Au Rr):=Bh
theorem eK[?K](F:Er K ?g9 ?g9 Rr f fd)[?J](CD:fV P w K mg ?e Ah [?Q,?V,?aA] 3 (?rY DT))(Hi:K5 P w K mg ?e Ah ?k2 ?a4 9 (?rY Ow))(F2:K5 P w K mg ?e Ah ?i7 ?a4 5 (?rY AF))[?eF](U7:Has P w K mg ?e ?nV [?bJ,?aA] 3 (Vw K)):By P w K mg ?e Ej 10 f fd ?eM (Sx K):=by
 refine ?sS La;obtain⟨v,n,w,A,Fin,rfl,hv,hn,hw,hP,k⟩:=h;obtain⟨ta,us,rfl,hq,V7,_⟩:=Hk hv;obtain⟨U,Y,a1,a2,a3,a4,a5⟩:=hP.ex
 refine⟨_,(Af (B9 (?sA U7 ?e8) ?jO Bo)
  (Af (?sH La.nd (Mp CD hr ?i T.m_Work ?e8))
  (Af (?t6 ?s Hi)
  (Af (?t6 ?s F2)
  (Af (?vK La.nd (?u5 Cv (?rX ?gN (?vV ?cI))))
  (Af (Av (i:=4) La.nd (?u5 Cv (Aa ?gN ?a7)))
  (?vE (D7 (Aa (?s8 Az ?s) (Aa ?gN (Aa ?y (?rX ?a2 ?gN)))))))))))),?_⟩
 ext P
 refine qw7 (t:=?hU) (?u7 [?bK,?aJ,none,none,none] ?gR) ?h ?_
 . refine⟨_,rfl,_,rfl,?iG,n,w,A,rfl,hv,hn,O9m,?r2⟩;ext h7;exact ?kB
 ext kQ;refine ?rV (fun σ' H'=>T7 fun p L R nm=>?uC ?n/\WX K Ag Ah H1 H' p L R nm n w (?c A) ?mW ?mW [])
 . refine⟨_,rfl,_,rfl,?_⟩;intro p dx np UX XD;have sN:?g H1 (?t5 H1 Ah):=?f5 np;exact⟨H1,p,dx,?iG,n,w,A,rfl,sN,np,Ab,?u s1 hv,O9m,hw,fun L R nm H' y=>⟨rfl,?rW ⟨p,L,R,nm,rfl,y⟩⟩⟩
 refine Ab1 fun p L R nm H2 x=>?_;intro sq;refine ?rV (fun σ' H'=>zG fun L R k f l r=>Dp (?uC ?n) (k<=n) (k<=w) (Y k 0 f l r) (WX K Ag Ah H1 H' p L R nm n w ?j l r (Ho k f)))
 . ext eE;refine⟨_,rfl,p,HV,HK,rfl,hpa,?oL,H1,p,L,R,nm,n,w,A,_,_,U,rfl,x,a1,a2,fun L' R' m M l r H' hU hS y=>?_⟩;obtain⟨k,f,e,k1,k2,hY⟩:=a3 m M l r hU hS;rw[e]at y;exact ?rW ⟨L',R',k,f,l,r,rfl,k1,k2,hY,y.drop⟩
 refine Aa7 fun L R kk f l r H3 k1 k2 hY x=>?_;intro sq;refine ?rV (fun σ' H'=>Qt fun f l r=>B6 (?uC ?n) (Fin kk f l r) (?nB kk kk f) (WX K Ag Ah H1 H' p L R nm n w ?j l r (Ho kk f)))
 . ext eE;refine⟨_,rfl,p,HV,HK,rfl,hpa,?oL,H1,p,L,R,nm,n,w,kk,l,r,f,Y kk,rfl,x,k1,k2,hY,a4 kk,fun d f' l' r' H' hY' hC y=>?_⟩;exact ?rW ⟨f',l',r',rfl,a5 _ _ _ _ _ hY',hC,y⟩
 refine Ab4 fun f l r H4 hF hC x=>?_;intro sq;ext eE;ext kN;obtain⟨dl,fl,hL,e1,e2,_⟩:=lx.ob;obtain⟨dr,fr,hR,e3,e4,_⟩:=ly.ob;obtain⟨VP,xa1,_⟩:=lx.rw;obtain⟨bs1,xb1,_⟩:=lx.bk;obtain⟨IK,xa2,_⟩:=ly.rw;obtain⟨bs2,QW,_⟩:=ly.bk;have JB:=x.same;refine⟨_,rfl,p,Ah,HV,HK,_,rfl,hpa,?q,?cR,xR,L,Ag,dl,fl,_,rfl,hL,?aV,?iR,e2,_,rfl,ta,us,rfl,?p ((?aB JB).seq hq),?d b1,n,n,l.2,(by rw[V7]<;>rfl),xb1.rep,O9m,O9m,fun D1 c1 H5 hc1 R1=>?_⟩;have UR:=R1.same;refine⟨_,rfl,p,Ah,HV,HK,_,rfl,(UR _ _ hpa),?q,?eD,zN,R,Ag,dr,fr,_,rfl,(UR _ _ hR),?aV,?iC,e3,_,rfl,?d r2,w,w,r.1,rfl,(xa2.same UR).rep,O9m,O9m,fun D2 c2 H6 hc2 R2=>?_⟩;have ZJ:=UR.trans ?dP;refine⟨_,rfl,p,Ah,HV,HK,_,rfl,(ZJ _ _ hpa),?q,?bW,VH,_,rfl,p,Ah,HV,HK,_,rfl,(ZJ _ _ hpa),?q,?cR,xR,L,Ag,dl,fl,_,rfl,(ZJ _ _ hL),?aV,?iC,e1,_,rfl,_,rfl,_,rfl,p,Ah,HV,HK,_,rfl,(ZJ _ _ hpa),?q,?eD,zN,R,Ag,dr,fr,_,rfl,(ZJ _ _ hR),?aV,?iR,e4,?aT,?p8⟩;have s67:?g H6 (upd H6 tp (?B [?d nm,?d r1,?d D1,?dW,?d b2])):=?t htp;have wR:=ZJ.trans s67;have NG:=(?aB JB).trans wR;have g1:∀a,?o3->?dQ:=fun a e=>s1.free e;refine k tp nm r1 D1 D2 b2 kk f l r _ hF hC k1 k2 ⟨NG,?b2,?lD,(xa1.same wR).rep,(R1.later ?mH).rep hc1,(R2.later s67).rep hc2,(QW.same wR).rep,?dG⟩;rcases ha with rfl | rfl | rfl | rfl | rfl
 . exact⟨g1 _ ?kX,_,?lD,?k5⟩
 . exact⟨g1 _ f1,_,wR _ _ xa1.2.1,by rw[qa4,xa1.1];omega⟩
 . exact⟨g1 _ (JB.free R1.free),_,?mH _ _ R1.at,by rw[qa4,hc1];omega⟩
 . exact⟨g1 _ (JB.free (UR.free R2.free)),_,s67 _ _ R2.at,by rw[qa4,hc2];omega⟩
 . exact⟨g1 _ f4,_,wR _ _ QW.2.1,by rw[qa4,QW.1];omega⟩
noncomputable abbrev Rt:Stmt:=top 66
theorem Dm:?D [?L,?kD,?hN,?j7,"k",?aA,?e6,?i5] [?L] (Au Rt):=Bh
theorem EL[?K](F:Er K ?fW ?fW Rt f fd)[?J](Q4:Has P w K mg ?e "ones" ["size"] 2 (bI K))(Va:Has P w K mg ?e ?g9 ?eM 10 (Sx K))[?kL][?rL](U5:Has P w K mg ?e ?g8 ?hE 4 (Vu K))[?eF](L7:Has P w K mg ?e ?gD ?gJ 8 (Od K)):By P w K mg ?e Ej 11 f fd [?L] (Vy K):=by
 refine ?sS Dm;obtain⟨a,xs,rfl,hL,hs,Jv,kq⟩:=h;ext h3
 have h4:∀x∈xs,x.length<=4:=fun x hx=>by
  obtain⟨i,hi⟩:=qg1 hx;rcases (hs i x hi).cnt with e | e | e | e<;>omega
 have pl:∀k,?d4<=40:=fun k=>?jD
 refine⟨_,(Af (?vS 1 (Hh Ae))
  (Af (?vS 2 (?u5 Q4 (?vA (?s2 (Aa (An Bt hr (Aa ?k ?cS)) Ae)))))
  (Af (?vS 3 (?u5 Q4 (?vA (?s2 ?b5))))
  (Af (B8 qb6 rfl (?sV (?vA (?vQ 4))) (?tI ?aU) (Af (?vS 5 (?vV (?vA (?u5 Bt (?rX ?k (Bq Ds ?a2 Ak))))))
  (Af (?vS 6 (?u5 Va (Aa (An Kw hr (Aa ?y (Aa (An L7 hr (?rX ?k (?vF ?a2))) ?b7))) ?b7)))
  (Af (?tT ?o (An U5 hr (Aa ?k (Aa ?a2 (Aa ?cD (?rX ?s ?y))))))
  (Af (?vS 7 (?s2 (?vA (?u0 ?cD))))
  (Af (?sH ?aU (Eo ?d1 (?vW (?u0 ?cD) ?b7) ?qZ Gf))
  (Ai (?vK ?aU (Eo ?d1 (?u0 ?cD) ?qZ Gf)))))))))
  (?vE ?o))))),?_⟩
 ext P
 refine ?rV (fun σ' H'=>Es fun ?g3=>B6 (?uD none none) ?e2 (?v6 H D) (?vD D []))
 . ext rH
 refine Vs fun D H1 s1 nD hD=>?_;intro sq;refine ?rV (fun σ' H'=>Es fun(la:Addr)=>B6 (?uD ?T none) (?uL H1) (la≠D) (?uT ?iY))
 . refine⟨_,rfl,a,0,xs,rfl,?gM,O9m,?pD⟩;ext kO;exact⟨?c3,rfl,?lP,fun la at_ H3 hal R3=>?rW ⟨la,rfl,?eB ?dY,?qN,JR (R3.rep hal)⟩⟩
 refine Vs fun la H2 s2 nlD hla=>?_;intro sq;refine ?rV (fun σ' H'=>Es fun(ga:Addr)=>B6 (?uD ?T ?U) (?uL H2) (ga≠D) (?uT ?f7))
 . obtain⟨_,lu,ez,hlq,YD,_⟩:=Hk hla;cases ez;ext rS;exact⟨?c3,rfl,?lP,fun ga at_ H3 hal R3=>?rW ⟨ga,rfl,?dY,?qN,JR (R3.rep hal)⟩⟩
 refine Vs fun ga H3 s3 ngD hga=>?_;intro sq;have s13:=(?aB s2).trans s3;refine ?rV (fun σ' H'=>VZ K H a D xs 4 σ' H')
 . refine ?mE;refine Ck (lo:=0) (n:=4) (fun k σ G'=>VZ K H a D xs k σ G') ?_ ?_ ?_
   . refine⟨[],[],la,ga,?c3,?dK,?dK,_,_,_,_,rfl,s13,(?eP) _ _ hD,rfl,M1.first xs,?r3,nlD,ngD,?u s3 hla,hga,?_,qa1 _,one_bits _ _,one_bits _ _⟩
     have e0:Dr xs (?m1-1)=0:=by
      show(F5 xs (0-1)).length=0;rw[RV];rfl
     rw[e0];exact Lat.Lev.first _ _
   . rintro k σ G' hk C3
     and_intros
     obtain⟨us,ls,la,ga,z,L,G,o4,o5,o6,o7,rfl,g,Ev,zP,Zc,hB,nla,nga,rla,rga,lev,hzm,bL,bG⟩:=C3;rw[show(0:Int)+?Y=?Y by omega];have B40:=pl ?Y;have B25:=pl (?b9)
     have hzw:z+?aL<=40:=by
      have:=NQ (xs:=xs) (show ?Y≠?b9 by omega);omega
     have usl:?sN k:=hB.1.trans zP;have ekk:?b9-1=?Y:=O9m
     have HH:=?u g hL;refine ?rV (fun σ' H'=>σ'=[?l,?I,?T,?U,?eC,?dC,o6,o7]/\?uL G')
     . refine⟨_,rfl,_,rfl,_,_,rfl,rfl,a,?b9,xs,rfl,HH,O9m,?pD⟩;ext kO;exact ?rW ⟨rfl,s2⟩
     refine Hn fun G1 g1=>?_;intro sq;have tw:=xQ hs ?Y;have told:=lev.told tw;obtain⟨pv,st⟩:=lev.st;have plan:=mK st told (fun q c _ _=>qZ h4 _ q c) hzw;refine ?rV (fun σ' H'=>mP fun(tp nm r1 D1 D2 b2:Addr) (k0:Nat) (f:?cH) (l r:?bI)=>Dp (?uZ o7) (?hR) (?uN f) (iO D nm r1 D1 D2 b2) (?uE uL ?Y))
     . refine⟨_,rfl,_,rfl,_,rfl,_,_,rfl,rfl,a,xs,?b9,rfl,?u (?fV) hL,O9m,h4,O9m,O9m,fun T as G2 hal R2=>?_⟩;rw[ekk]at hal;have rT:Rep K G2 (?d T) (dT (?jP) (?aL) (?kA)):=R2.rep hal;refine⟨_,rfl,?f7,?d T,z,?jP,?aL,G,?kA,rfl,?u (?dE ?dP) rga,rT,O9m,O9m,O9m,fun i j c hi hj hc=>Q0 (bG i j hi hj) (GC h4 _ j c) (by unfold bookF;decide),fun T2 IK G3 yH R3=>?_⟩;refine⟨_,rfl,?d T2,z,?aL,Lat.gT (?jP) G (?kA),_,rfl,R3.rep yH,O9m,O9m,plan,fun tp nm r1 D1 D2 b2 k0 f l r G4 hF hC k1 k2 x=>?_⟩;exact ?rW ⟨tp,nm,r1,D1,D2,b2,k0,f,l,r,rfl,(?jN ?dY).trans ?cX,x.r,x.ne (((?dE ?dP).trans ?dY) _ _ Ev),⟨lev,hF,hC,k1,k2,bL,bG,hzm⟩⟩
     refine WD fun tp nm r1 D1 D2 b2 k0 f l r G2 g2 x xn bl=>?_;intro sq;have JO:=?g4;refine ?rV (fun σ' H'=>Es fun ?o7=>Dp (?uZ o7) ?e2 (?vD D us') (Fr D H' us' (ls++[?uE Iq ?Y])) (?uN f))
     . refine⟨_,rfl,?s4 (?oQ),_,rfl,_,rfl,_,rfl,_,rfl,_,rfl,a,tp,nm,r1,D1,D2,b2,?iY,?f7,xs,?Y,z,k0,_,L,G,f,l,r,rfl,?u (?aX JO) hL,Jv,rfl,?u JO rla,?u JO rga,x,O9m,bl.kz,bl.kw,fun i hi=>by have:=bl.fin.dg.pos i hi;omega,bl.fin.bl.1,bl.fin.bl.2,bL,bG,fun E eu G3 nE g3 hE rE=>?_⟩;have VL:=JO.trans g3;refine⟨D,_,_,rfl,rfl,?j9,?bS,?_⟩;have nED:E≠D:=fun q=>by rw[q,?oQ]at nE;cases nE
       refine ?rW ⟨us++[?d E],rfl,(?aX VL).turn nD,Ab,?_,?_⟩
       . exact(hB.same VL).snoc (?j9) nED hE rE
       . exact(?cX g3).put xn (?j9) hB.refs
     refine Ab7 fun us' G3 g3 yL zU x3=>?_;intro sq;refine ?rV (fun σ' H'=>σ'=[?l,?I,?T,?U,?eC,?dC,?S,?u4 ?gK]/\G3=H')
     . refine⟨_,rfl,tp,_,_,_,rfl,rfl,?jL,rfl,nm,_,rfl,?p x3.num,?_⟩;rw[Bv];exact ?iA
     rintro _ _ ⟨rfl,rfl⟩;have hkw:=bl.kw;refine ?rV (fun σ' H'=>Es fun(la2:Addr)=>B6 (σ'=[?l,?I,rS la2,?U,?eC,?dC,?S,?u4 ?gK]) (?uL G3) (la2≠D) (?uS la2 (dT (?aL-k0) (?aL) ?oG)))
     . refine⟨_,rfl,tp,_,_,_,rfl,rfl,?jL,rfl,_,rfl,?dW,_,_,_,rfl,x3.right,O9m,O9m,fun F as G4 hal R4=>?_⟩;refine⟨_,rfl,_,rfl,F,_,rfl,.of R4.at,?hS⟩;have ec:Ju (?e7) (?c ?gK) ?j=(as.drop k0).map ?a0:=by rw[Pw,qp3]
       rw[ec];have R5:=R4.drop (k:=k0) hC rfl;refine ?rW ⟨C,rfl,R5.same,(Ao (?jJ _ _ yL) hC).symm,?_⟩;exact R5.rep (by rw[qi6,hal])
     refine Vs fun la2 G4 g4 Az8 Ay5=>?_;intro sq;have x4:=x3.same g4;obtain⟨_,bu,ez,hbq,A65,Al0⟩:=Hk x4.rback;cases ez;refine⟨_,rfl,tp,_,_,_,rfl,rfl,?j1,rfl,_,rfl,_,rfl,b2,bu,rfl,hbq,?hS⟩;rw[Pw];have g5:=?t (o:=?m (bu.drop k0)) hC;refine⟨us',ls++[?uE Iq ?Y],la2,C,?aL-k0,(?oG),(fun i=>r.2 (k0+i)),_,_,_,_,rfl,(?iT g4).trans g5,(g4.trans g5) _ _ yL,by rw[qc3,zP];rfl,Zc.snoc bl,zU.same (g4.trans g5),Az8,(Ao (g4 _ _ yL) hC).symm,?_,?_,?_,?_,?_,?_⟩
     . ext eG;exact ?u g5 Ay5
     . ext eG;refine tY (us:=bu) (fun i u e=>?_) A65 (?b2);obtain⟨h1,b,eb,hb⟩:=Al0 i u e;exact⟨h1,b,eb,g5.seq hb⟩
     . obtain⟨pl',lo⟩:=bl.fin.lo;have:=lev.next tw bl.fin.dg bl.fin.il bl.fin.ir lo;rw[?nD,ekk];exact this
     . ext eG;omega
     . ext eG;exact fun i c hi hc=>bl.fin.br.1 _ _ O9m hc
     . ext eG;exact fun i c hi hc=>bl.fin.br.2 _ _ O9m hc
   . rintro σ G' h;exact ?rW h
 rintro _ H4 ⟨us,ls,la',ga',z,L,G,o4,o5,o6,o7,rfl,g,Ev,zP,Zc,hB,_⟩;exact⟨_,rfl,kq D us ls H4 nD g Ev zP ⟨_,_,_,Zc⟩ hB.out⟩
noncomputable abbrev Lx:Stmt:=Ex ?nL 0
theorem O0:?D [?Q,?bJ,"bases"] ?iW (Au Lx):=Bh
theorem Yr[?K](F:Er K ?bM ?n7 Lx f fd)[?J](Vb:Has P w K mg ?e ?fW [?L] 11 (Vy K))(U6:Has P w K mg ?e ?oJ [?L,"bases"] 3 (Vv K))(U8:Has P w K mg ?e ?fG ?dL 6 (Sn K))(Id:Has P w K mg ?e ?lY ?mM 1 (Ke K)):By P w K mg ?e Ej 12 f fd ?iW ?mP:=by
 refine ?sS O0;obtain⟨p,dx,a,us,H0,xs,rfl,hp,ha,r,s0,n0a,n0p,hs,Jv,k⟩:=h;have hL:LT K H ?g2 xs:=⟨a,us,rfl,.of ha,?d3 s0 r⟩
 have nap:a≠p:=fun z=>by rw[z,hp]at ha;cases ha
 refine⟨_,(Af (B9 (?sA U8 ?a7) ?jO Bo)
  (Af (?sL (?uI ?a7))
  (Af (?sH O0.nd (?u5 Vb ?bT))
  (Af (Ek (K:=K) ?k (Cc (N':=?mM) (cap:=[none]) ?i ?b1 (?s8 Cd ?s) (?rZ (?uG XH)) ?b3 (?rZ (?u5 Id ?cI))))
  (Ai (?sL (?u5 U6 (Aa ?R ?b5)))))))),?_⟩
 ext P
 refine ?rV (?u7 [?n,?l,none] ?gR)
 . refine⟨_,rfl,?d a,xs,rfl,hL,hs,Jv,?r2⟩;exact Hq ?aZ (?kB)
 ext kQ;refine ?rV (fun σ' H'=>Es fun ?q0=>K8 (σ'=[?n,?l,none]) (?c2 p H H') (H' P=?d2) (P≠p) (P≠a) (H' p=?c (?M Ax dx [?i0])))
 . refine⟨_,rfl,a,us,rfl,?p (?s5 s1 ha),fun P hP=>?_⟩;have s2:=?aB (?t (o:=?m us) hP);have nPp:P≠p:=(Ao (?iF) hP).symm;refine⟨_,rfl,p,Ax,dx,[],rfl,?v4 hp,?bE,?iB,?aW,?_⟩;exact ?rW ⟨P,rfl,?dN (?f2 s2),by rw[Aj nPp];exact Ab,nPp,(Ao (s1 _ _ ha) hP).symm,?kF⟩
 refine Ab6 fun P H2 sx2 hP2 nPp nPa hp2=>?_;intro sq;have WR:=sx2.same s0 n0p;have ha2:=sx2 _ _ nap ha;refine ?rV (fun σ' H'=>Qt fun ?g3 (bu:?d6) ?q4=>M9 (σ'=[?n,?l,?I]) (?uL H2) (?vD D bu) (D≠p) (Oc H' bu ls) (ls.length=4) (∃z L G,M1 xs 4 ls z L G))
 . refine⟨_,rfl,p,Ax,dx,_,_,rfl,hp2,?bE,?iB,rfl,P,xs,rfl,(?sY hP2 WR),hs,Jv,fun D bu ls H3 nD s3 hD yE Zc hB=>?_⟩;exact ?rW ⟨D,bu,ls,rfl,s3,hD,(Ao hp2 nD).symm,hB,yE,Zc⟩
 refine Ab2 fun D bu ls H3 s3 hD nDp hB yE Aj7=>?_;intro sq;have Zc:=let ⟨_,_,_,t⟩:=Aj7;M1.lev t
 have hp3:=s3 _ _ hp2;have ha3:=s3 _ _ ha2;have h0:=hB.1;refine ?rV (fun σ' H'=>Ij fun(Lv:Addr) (ws:?d6)=>d8 (σ'=[?n,?l,?I]) (?c2 p H3 H') (?vD Lv ws) (Lv≠p) (Lv≠a) (Oc H' ws (ls.map Ux)) ((∀v∈ws,v≠?d a)) (H' p=?c (?M Ax dx ?iE)))
 . refine⟨_,rfl,D,rfl,(?vM hD),fun Lv VJ=>?_⟩;have nLp:Lv≠p:=(Ao hp3 VJ).symm;have nLa:Lv≠a:=(Ao ha3 VJ).symm
   let Bc1:?bB:=fun i ws τ G=>Dp (?g H3 G) (G Lv=?u3 ws) (Fr Lv G ws ((ls.take i).map Ux)) ((∀v∈ws,v≠?d a)) (?tA [o])
   refine Cp (K:=K) (a:=D) (xs:=bu) Bc1
    ⟨?t VJ,Ab,?r3,(fun v hv=>by cases hv),?j,rfl⟩ (fun i ws τ G _ hz=>?uA hD) ?_ ?_
   . rintro i v ws τ G hv C3;revert τ;refine OT ?_;intro g HH hW hna o Ei;have hi:=?dA;obtain⟨ps,hps⟩:?lX:=?qK
     obtain⟨pa,pu,rfl,hpa,rP⟩:=hB.2 i v ps hv hps;have hpl:=(Zc i ps hps).len Jv
     have wl:ws.length<=i:=by
      have:=hW.1;rw[qa4,qc9]at this;omega
     refine⟨_,rfl,pa,pu,ps,rfl,g _ _ hpa,?k6 g,O9m,fun E eu G2 nE g2 hE rE=>?_⟩;have nEL:E≠Lv:=(Ao HH nE).symm;refine⟨?mG,?bS,(?aX g2).turn VJ,Ab,?_,fun v hv=>?_,_,rfl⟩
     . rw[qf7,hps,qb5];exact(hW.same g2).snoc (?mG) nEL hE rE
     . rcases ql2.mp hv with hv | hv
       . exact hna v hv
       . rw[qq2]at hv;subst hv
         exact fun z=>by
          cases z;rw[g _ _ ha3]at nE;cases nE
   . rintro ws τ G ⟨g,HH,hW,hna,_⟩;rw[h0,qd2]at hW;refine(?t7 ?kC ?p4);refine ?rW ⟨Lv,ws,rfl,?dN (?f2 g),by rw[Aj nLp];exact HH,nLp,nLa,?qL,hna,?kF⟩;obtain⟨E,eu,rfl,_,hE,rE⟩:=?r9;refine⟨E,eu,rfl,?_,B5.kd (fun c o e ho=>?_) rE⟩
     . rw[Aj ?jS]
       . exact hE
       . rw[z,?kC]at hE;cases hE
     . rw[Aj ?jS]
       . exact e
       . rw[z,?kC]at e;cases e;ext kP
 refine Ab5 fun Lv ws H4 UQ VJ nLp nLa hW hna Qd=>?_;intro sq;have uS:=UQ.same (WR.trans s3) n0p;have hP4:=UQ _ _ nPp (s3 _ _ hP2);have DI:=UQ _ _ nDp hD;have ha4:=UQ _ _ nap ha3;have kd4:∀c o,H3 c=?aO->(∀C d f,o≠?M C d f)->H4 c=?aO:=fun c o e h=>UQ _ _ (fun z=>by rw[z,hp3]at e;cases e;exact h _ _ _ rfl) e
 have hB4:Oc H4 bu ls:=⟨h0,fun i v ps e1 e2=>by
  obtain⟨E,eu,rfl,hE,rE⟩:=hB.2 i v ps e1 e2;exact⟨E,eu,rfl,kd4 _ _ hE fun _ _ _ z=>(?o9),B5.kd (fun c o e ho=>kd4 c o e fun _ _ _ z=>by rcases ho with⟨_,q⟩|⟨_,q⟩<;>rw[q]at z<;>cases z) rE⟩⟩
 refine⟨_,rfl,p,Ax,dx,_,_,rfl,Qd,?bE,?iB,rfl,_,rfl,P,D,xs,bu,ls,rfl,(?sY hP4 uS),Jv,DI,hB4,fun ps hps=>?_,fun Lf wu H5 nLf s5 hLf dd=>?_⟩
 . obtain⟨i,hi⟩:=qg1 hps;exact(Zc i ps hi).ok Jv
 have nfp:Lf≠p:=(Ao Qd nLf).symm;have nfa:Lf≠a:=(Ao ha4 nLf).symm;have EW:=s5 _ _ Qd;refine(?t7 EW T.na_Book_lifts);have hp6:upd H5 p (?tM Lf) p=?c (?M Ax dx [?i0,?m7,(?gP,?d Lf)]):=?kF
 have DO:?c2 p H5 (?oI):=?f0;generalize ?oI=H6 at hp6 DO;have ha6:=?tQ nap ha4;have s06:=DO.same (uS.trans s5) n0p;have sB:=pB s06 n0a
 have kd6:∀c o,H5 c=?aO->((∃l,o=?B l)\/∃l,o=.dK l)->LQ H6 a c=?aO:=fun c o e ho=>by
  have ncp:c≠p:=fun z=>by rw[z,EW]at e;cases e;ext kP
  have e6:=DO c o ncp e;rw[Lj ?jS]
  . exact e6
  . rw[z,ha6]at e6;cases e6;ext kP
 refine k (LQ H6 a) ls H6 (((sx2.trans (?f2 s3)).trans UQ).trans ((?f2 s5).trans DO)) ⟨⟨dx,P,Lv,Lf,ws,wu,?_,(?sY ?_ sB),?_,?qL,?_,dd.1,fun i v e=>?_⟩,hs,Jv,yE,Zc,Aj7⟩ sB lQ JM
 . rw[Lj nap.symm];exact hp6
 . rw[Lj nPa];exact ?tQ nPp hP4
 . rw[Lj nLa];exact ?tQ nLp VJ
 . obtain⟨E,eu,rfl,hE,rE⟩:=?r9;have hE5:=s5 _ _ hE;have nEp:E≠p:=fun z=>by rw[z,EW]at hE5;cases hE5
   have nEa:E≠a:=fun z=>hna _ (qb0 e1) (by rw[z]);exact⟨E,eu,rfl,by rw[Lj nEa];exact DO _ _ nEp hE5,B5.kd kd6 (rE.same s5)⟩
 . rw[Lj nfa];exact DO _ _ nfp hLf
 . obtain⟨c,e1,_,e2⟩:=dd.2 i v e;exact⟨c,e1,rfl,kd6 _ _ e2 (?a8 ?aP)⟩
noncomputable abbrev S3:Stmt:=top 88
theorem Nc:?D [?cM,?i2,"_law_copy","_law_book",?nF,?jX,"_law_kept",?qA,"_law_chain"] ?gG (Au S3):=Bh
theorem XA[?K](F:Er K ?c5 ?c5 S3 f fd)[?J](Pr:Has P w K mg ?e ?o4 ["_law_kind","_law_cells","_law_most"] 3 (Qx K))(cE:fV P w K mg ?e Ax ?iW 12 ?mP)(Sa:Has P w K mg ?e ?n8 [?cM,?nF] 1 (Su K))(J6:K5 P w K mg ?e Ax ?hW ?fS 4 ?qI)(N5:Has P w K mg ?e ?oV [?i2,"_law_level_here",?jX] 3 (So K))(Ky:Has P w K mg ?e ?lZ [?i2,?jX] 3 (Xy K)):?tB P f:=by
 refine ?sS Nc;obtain⟨a,ns,rfl,hS,hl,Bo0,kq⟩:=h;have Qk:=hr.u8
 refine⟨_,(Af (Av (i:=1) ?b8 (?u5 Pr (Aa (An Sa hr (Aa ?k ?cS)) (Aa (Eo ?d1 ?k ?iD ?iD) ?cS))))
  (Af (?sH ?b8 (?uI ?a7))
  (Af (?vK ?b8 (Mp cE hr ?i T.m_Book ?b5))
  (Af (?tT ?s (D7 Ae))
  (Af (B8 qb6 rfl (?sV ?cS) (?tI ?b8) (Af (Av (i:=5) ?b8 (Dh ?y ?bE J6 hr ?d8))
  (Af (B9 (PW.pt (Ml (?sA N5 (?vX ?a2 ?b7)) (Nm (?sA Ky (Aa ?o ?b7))))) ?eV Bo)
  (Af (bN (N':=[?qA]) (cap:=[none]) (i:=6) ?b8 ?i (by ext rT) ?i ?b1 (?s8 Cd ?bA) (?rZ (?uG xE)) ?b3 (?rZ (D7 (Aa (?u0 ?k) (Aa (?vP (?vA (?u0 ?k))) (Aa (?vP (?vA (?u0 ?k))) (?vA (?vP (Aa (?u0 ?k) Ae)))))))))
  (Af (B8 qb6 rfl (?s8 Cd ?bA) (?vB 7 ?b8) (Ai (B8 qb6 rfl (?s8 Qc (Eo (Kt (K:=K)) ?hG ?iD Gf)) (?vB 8 ?b8) (Ai (Xa (u1 Qk) (pv 8) Ak Ak ?i)))))
  (Af (?tT ?bA BP)
  (Ai (B9 (Bf (?s8 EV Qk) (Dh ?y ?bE J6 hr ?d8) ?cD ?aQ) ?eV Bo))))))))
  ?eV))))),?_⟩
 ext P
 refine ?rV (fun σ' H'=>Qt fun(p1:Addr) ?hZ (xs:At)=>Dp (?tY none none) (H' p1=?d2) (Reps K H' us (xs.map tI)) (Ef xs) (xs.length<=40))
 . refine⟨_,rfl,a,ns,0,rfl,hS,?z,hl,_,rfl,_,rfl,_,rfl,a,_,rfl,hS,?hS⟩;have sC:?g H (upd H C (?m (Ju (ns.map ?aK) (?d7) (?c 41)))):=?t hC;have hcl:=pV ns (?d7) (?c 41);refine⟨C,PV ns (?d7) (?c 41),_,24,rfl,?_,O9m,?z,?z,fun p1 us1 H1 zs hp1 s1 A49 r1 hsh hzl=>?_⟩
   . rw[←PU];exact ?b2
   . exact ?rW ⟨p1,us1,zs,rfl,A49,r1,hsh,O9m⟩
 refine Ab3 fun p1 us xs H1 hp1 r hs Jv=>?_;intro sq;have h4:=kR hs;refine ?rV (fun σ' H'=>Es fun ?mC=>B6 (?tY ?aG none) (?uL H1) (?v6 H1 C) (H' C=?d2))
 . exact⟨_,rfl,p1,us,rfl,?p (.of hp1),fun C hC=>?rW ⟨C,rfl,?t hC,hC,Ab⟩⟩
 refine Vs fun C H2 s2 nC hC=>?_;intro sq;refine ?rV (fun σ' H'=>Qt fun(p:Addr) (B:Hp) ?q4=>K8 (?tY ?aG ?n) (IQ K Ax B p xs ls) (?g H1 B) (?oR) (?v6 B C) (H' C=?d2))
 . refine ?c9;intro p dx np UX XD;have s3:?g H2 (?t5 H2 Ax):=?f5 np;refine⟨p,dx,C,us,H1,xs,rfl,Ab,?q8,r,?eP,nC,s2.free np,hs,Jv,fun B ls H4 sx bk s1B sBH nB=>?f1⟩;exact ?rW ⟨p,B,ls,rfl,bk,s1B,sBH,nB,sx _ _ (Ao hC np) (?q8)⟩
 refine uM fun p B ls H4 bk s1B sBH nBC hC4=>?_;intro sq;have hLB:LT K B (?d p1) xs:=⟨p1,us,rfl,?s5 s1B hp1,?d3 s1B r⟩
 obtain⟨dx,P,Lv,Lf,lu,wu,hp,_⟩:=bk.ob;have usl:?m2:=?nM
 refine ?rV (fun σ' H'=>?tY ?aG ?n/\?oR)
 . refine⟨_,rfl,?s4 hC4,?aT,fun t0 ht0=>?_⟩;have g0:=?t (o:=?B []) ht0;refine⟨C,_,_,rfl,rfl,g0 _ _ hC4,?bS,?_⟩;exact ?rW ⟨rfl,(sBH.trans g0).turn nBC⟩
 refine Hn fun H5 s5=>?_;intro sq;refine ?rV (fun σ' H'=>True)
 . refine ?mE
   let Bc0:?bL:=fun i σ G=>z8 fun o4 o5 o6 o7 o8=>σ=(?vJ o4 o5)/\?g B G
   refine Ck (lo:=0) (n:=4) Bc0 ⟨_,_,_,_,_,rfl,s5⟩ ?_ ?_
   . rintro i σ G hi C3
     and_intros
     revert σ;refine Ai2 ?_;intro o4 o5 o6 o7 o8 g Ei;rw[show(0:Int)+?N=?N by omega];obtain⟨ps,hps⟩:?lX:=⟨_,qa0 (by have:=bk.n4;omega)⟩
     have lev:=bk.lev i ps hps;have hok:=lev.holes Jv;have hrd:=lev.rounds hs Jv;have hlf:=lev.lf Jv;have hnl:?hD<=40:=qa6 (qh9 _ _) (lev.len Jv);refine ?rV (fun σ' H'=>Ij fun ?g3 ?o7=>Dp (σ'=(?vJ ?a1 ?I)) (?uL G) (?v6 G D) (?vD D us') (Cr G H' us' ?cT))
     . refine⟨_,rfl,p,dx,_,rfl,g _ _ hp,rfl,_,rfl,p,?N,B,xs,ls,rfl,bk,g,O9m,O9m,fun ps' D us' G1 oZ nD g1 hD rP=>?_⟩;rw[qe6,hps]at oZ;cases oZ;exact ?rW ⟨D,us',rfl,g1,nD,hD,rP⟩
     refine iR fun D us' G1 g1 nD hD rP=>?_;intro sq;have ul':us'.length=?hD:=rP.1;refine ?rV (?u7 (?vJ ?a1 ?I) ?hR)
     . refine⟨_,rfl,_,rfl,_,rfl,p1,D,xs,?N,us',_,G,rfl,?u (?fV) hLB,hD,rP,hok,fun G2 g2=>?c9⟩;ext h4;refine⟨_,rfl,_,rfl,p1,D,xs,?N,us',_,G,rfl,?u (?q2 g2) hLB,g2 _ _ hD,O9m,?k6 g2,h4,hok,hrd,fun G3 g3=>?c9⟩;ext h4;exact ?rW ⟨rfl,?lW g3⟩
     refine Hn fun G3 g3=>?_;intro sq;have AR:=g3 _ _ hD;have rP3:=?k6 g3;have g03:=?q2 g3;refine ?rV (fun σ' H'=>Ij fun(E:Addr) (ks:?d6)=>Dp ?oP (?uL G3) (?v6 G3 E) (?vD E ks) (Cr G3 H' ks ?cT))
     . refine⟨_,rfl,D,rfl,(?vM AR),?h9⟩
       let Bb9:?bB:=fun i ys τ G=>B6 (?g G3 G) (G E=?u3 ys) (Cr G3 G ys ((Ux ps).take i)) (?tA [o])
       refine Cp (K:=K) (a:=D) (xs:=us') Bb9
        ⟨?t hE,Ab,?qD,_,rfl⟩ (?vN AR) ?_ ?_
       . rintro i v ys τ G hv C3;revert τ;refine Lg ?_;intro g Ev rY o Ei;have hi:=?dA;obtain⟨q,hq⟩:∃q,?cT[i]?=?c q:=?qK
         obtain⟨t,c1,c2,c3,rfl,_,et,d1,d2,d3⟩:=(rP3.same g).2 i v q hv hq
         have yl:?pA:=by
          have:=rY.1;rw[qc9]at this;omega
         refine⟨_,rfl,t,_,_,_,rfl,rfl,?gF,rfl,_,rfl,t,_,_,_,rfl,rfl,?gF,rfl,c1,_,rfl,?p d1,?oM⟩;have g1:=?lL;refine⟨_,rfl,t,_,_,_,rfl,rfl,?s5 g1 et,rfl,c2,_,rfl,?p (g1 _ _ d2),?r0⟩;ext rU;have g2:=?dE g2';refine⟨_,rfl,t,_,_,_,rfl,rfl,?s5 g2 et,rfl,c3,_,rfl,?p (g2 _ _ d3),?m6⟩;ext rB;refine⟨?gL,?bS,?pZ hE,Ab,?_,_,rfl⟩;ext rA
       . rintro ys τ G ⟨g,Ev,rY,_⟩;rw[ul',qd2]at rY;exact ?rW ⟨E,ys,rfl,g,hE,Ev,rY⟩
     refine iR fun E ks G4 g4 nE hE4 rK=>?_;intro sq;have sB4:=g03.trans g4;have sBB:?g B ?fY:=tG sB4;have sB2:?g ?fY G4:=HD;have YK:Mu B G3 G4 E=?u3 ks:=by rw[AN nE];exact hE4
     have rK2:Cr G3 ?fY ks ?cT:=rK.kd fun c o e0 e _=>by rw[AN e0];exact e
     have old:∀c o,?v6 G c->G3 c=?aO->Mu B G3 G4 c=none:=fun c o e0 e=>LK (g.free e0) (by rw[e];exact fun z=>?o9);have nD2:=old D _ nD AR
     have mu:T5 ?fY G4 us':=fun v hv=>by
      obtain⟨j,hj⟩:=qg1 hv;have hjl:=(?f3 hj).1;have ep:?cT[j]?=?c (?cT[j]'(O9m)):=?jT;obtain⟨t,c1,c2,c3,e,⟨_,n1,n2,n3⟩,et,d1,d2,d3⟩:=rP3.2 j v _ hj ep;obtain⟨q1,q2,q3⟩:=hlf _ (qb0 ep);exact⟨t,c1,c2,c3,_,e,⟨old _ _ n1 d1,old _ _ n2 d2,old _ _ n3 d3⟩,g4 _ _ et,⟨_,g4 _ _ d1,q1.n,q1.k⟩,⟨_,g4 _ _ d2,q2.n,q2.k⟩,⟨_,g4 _ _ d3,q3.n,q3.k⟩⟩
     have DI:=g4 _ _ AR;generalize ?nQ=B2 at sBB sB2 YK rK2 nD2 mu;refine ?rV (fun σ' H'=>Ij fun o7 o8=>E4 ?oP (?lI) (?vD D us'))
     . refine(?v7 D (?vM DI))
       let Bb8:?bL:=fun j σ X=>Ij fun o7 o8=>B6 (σ=?qJ) (?g B2 X) (X D=?u3 us') (T5 B2 X us')
       refine for_list (K:=K) (a:=D) (xs:=us') Bb8
        ⟨_,_,rfl,sB2,DI,mu⟩ (fun j σ X _ hz=>by obtain⟨_,_,_,_,e,_⟩:=hz;exact .of e) ?_ ?_
       . rintro j v σ X hv C3
         and_intros
         revert σ;refine ?eN;intro o7 o8 x pG mu Ei;obtain⟨t,c1,c2,c3,n,rfl,⟨n1,n2,n3⟩,et,d1,d2,d3⟩:=mu v (qb0 hv);refine⟨_,rfl,_,rfl,t,_,rfl,?gF,(fun z=>by cases z.1),fun s X1 x1 hs'=>⟨s,rfl,⟨_,hs'⟩,?_⟩⟩;have hs2:Dl K X1 s ?hP:=hs'
         let Bb7:?bL:=fun m σ X=>Es fun o8=>d8 (σ=[?l,?aI,?aG,?n,?a1,?I,rS E,rS t,o8]) (?g B2 X) (X D=?u3 us') (T5 B2 X us') (Dl K X s ?hP) (kF X c1) (kF X c2) (kF X c3)
         refine cI (K:=K) (a:=s) (xs:=?hP) Bb7
          ⟨_,rfl,x.trans x1,x1 _ _ pG,mu.same x1,hs2,d1.same x1,d2.same x1,d3.same x1⟩ (fun m σ X _ hz=>by obtain⟨_,_,_,_,_,e,_⟩:=hz;exact e) ?_ ?_
         . rintro m v σ X hv C3
           and_intros
           revert σ;refine Ai4 ?_;intro o8 x pG mu sq d1 d2 d3 Ei
           obtain⟨c,rfl,nc,dc⟩:∃c,v=?d c/\?v6 B2 c/\kF X c:=by
            match m,hv with
            | 0,hv=>cases hv;exact⟨_,rfl,n1,d1⟩
            | 1,hv=>cases hv;exact⟨_,rfl,n2,d2⟩
            | 2,hv=>cases hv;exact⟨_,rfl,n3,d3⟩
            | m+3,hv=>simp at hv
           obtain⟨ms,hc,hn,hk⟩:=id dc;have hn':=gW hn 0 5;have hk':=TL hk 5;have B42:=XU hn hk;refine⟨_,rfl,c,_,rfl,Xg hc O9m,?_⟩;exact⟨_,rfl,x.turn nc,by rw[Aj fun z=>by rw[←z,pG]at hc;cases hc];exact pG,mu.put dc hn' hk',Dl.x (fun d r n e=>?nN) hc sq,d1.put hn' hk',d2.put hn' hk',d3.put hn' hk'⟩
         . rintro σ X ⟨o8,rfl,x,pG,mu,_⟩;exact⟨_,_,rfl,x,pG,mu⟩
       . rintro σ X C3;revert σ;refine ?eN;intro o7 o8 x pG _ Ei;exact ?rW ⟨_,_,rfl,x,pG⟩
     refine mV fun o7' o8' X x pG=>?_;intro sq;refine ?rV (?u7 [?l,?aI,?aG,?n,?a1,?I,rS E,o7',o8'] ?lI)
     . refine⟨_,rfl,?s4 pG,D,_,_,rfl,rfl,pG,?bS,?_⟩;exact ?rW ⟨rfl,x.turn nD2⟩
     refine Hn fun Y y=>?_;intro sq;refine⟨_,rfl,p,dx,_,rfl,(?k7 y) _ _ hp,rfl,_,rfl,p,?N,B,xs,ls,rfl,bk,?k7 y,O9m,O9m,fun ps' D' ws Z oZ nD' z hD' rP'=>?_⟩;rw[qe6,hps]at oZ;cases oZ;have yz:=y.trans z;refine⟨_,rfl,D',E,ws,ks,rfl,rfl,.of hD',?s5 yz YK,gO rP' (rK2.same yz) hlf,_,rfl,?_⟩;ext h4;exact⟨_,_,_,_,_,rfl,?k7 yz⟩
   . rintro σ G _;exact ?rW trivial
 rintro _ G _;exact kq G
universe e9
theorem Hr[?eI](h:∀a0,P [a0])[?eJ](hl:?sN 1):P us:=by
 cases us with
 | nil=>ext W
 | cons a0 u0 =>
   cases u0 with
   | nil=>exact h a0
   | cons _ _=>simp at hl
theorem Ed[?eI](h:∀a0 a1,P [a0,a1])[?eJ](hl:?sN 2):P us:=by
 cases us with
 | nil=>ext W
 | cons a0 u0 =>
   cases u0 with
   | nil=>ext W
   | cons a1 u1 =>
     cases u1 with
     | nil=>exact h a0 a1
     | cons _ _=>simp at hl
theorem Ga[?eI](h:∀a0 a1 a2,P [a0,a1,a2])[?eJ](hl:?sN 3):P us:=by
 cases us with
 | nil=>ext W
 | cons a0 u0 =>
   cases u0 with
   | nil=>ext W
   | cons a1 u1 =>
     cases u1 with
     | nil=>ext W
     | cons a2 u2 =>
       cases u2 with
       | nil=>exact h a0 a1 a2
       | cons _ _=>simp at hl
theorem vN[?eI](h:∀a0 a1 a2 a3,P [a0,a1,a2,a3])[?eJ](hl:?sN 4):P us:=by
 cases us with
 | nil=>ext W
 | cons a0 u0 =>
   cases u0 with
   | nil=>ext W
   | cons a1 u1 =>
     cases u1 with
     | nil=>ext W
     | cons a2 u2 =>
       cases u2 with
       | nil=>ext W
       | cons a3 u3 =>
         cases u3 with
         | nil=>exact h a0 a1 a2 a3
         | cons _ _=>simp at hl
theorem PL[?eI](h:∀a0 a1 a2 a3 a4,P [a0,a1,a2,a3,a4])[?eJ](hl:?sN 5):P us:=by
 cases us with
 | nil=>ext W
 | cons a0 u0 =>
   cases u0 with
   | nil=>ext W
   | cons a1 u1 =>
     cases u1 with
     | nil=>ext W
     | cons a2 u2 =>
       cases u2 with
       | nil=>ext W
       | cons a3 u3 =>
         cases u3 with
         | nil=>ext W
         | cons a4 u4 =>
           cases u4 with
           | nil=>exact h a0 a1 a2 a3 a4
           | cons _ _=>simp at hl
set_option maxHeartbeats 4000000 in
noncomputable abbrev nS(K:W.Frag)(s:Str)(a:Addr):Prop:=?qP=?sR ?g2
noncomputable abbrev nN9(K:W.Frag)(s:Str):Prop:=?qP=?X
noncomputable abbrev kO(K:W.Frag)(a b:Addr)(v:Bool):Prop:=PySem.W.kitOne K ?g2 (?d b)=?c v
theorem all_mk{l:PySem.W.OpenLaw}{w:World}{K:W.Frag}{h:Heap}{mg:?iP}{fa:Addr}{Ag:Addr}
 {Ad:Addr}
 {Ah:Addr}
 {Ax:Addr}
 {F9:Addr}{Ys Z7:OAddr}{X4:Ra}{Yt Y9 Zp Yg Py Zt:Value}
 {Hj:Addr}{j6 y7:OAddr}{f9:Ra}{j7 l9 m9 i5 Q6 v7:Value}
 {Jc:Addr}{bT DE:OAddr}{bJ:Ra}{bU cB CN bO Tx CU:Value}
 {YR:Addr}{Ag3 vQ:OAddr}{Ad8:Ra}{Ag4 vI VN UU pZ vO:Value}
 {Vt:Tok}
 {Os:Tok}
 {Qu:Tok}
 {CI:Addr}{sV:Nat}{mZ:Ra}{KO KN kN kM KL:Tok}
 {Kz:Addr}{Yy:Nat}{Wm:Ra}{Ud Uc Ub Ua:Tok}
 (X:K.In h) (G:?pQ) (hfa:mg ?c5=?c (?d fa))
 (QA:nS K "Lines" Ag)
 (MN:nS K "Stairs" Ad)
 (uF:nS K "Work" Ah)
 (UG:nS K "Book" Ax)
 (IA:?sG "is_whole" Rn)
 (Vg:?sG "shared_divisor" Hy)
 (iA:?sG "level_of" Rm)
 (n6:?sG "faces_agree" Lo)
 (PR:?sG "add_at" Yc)
 (tX:?sG "times" BK)
 (Vi:?sG ?pS Ia)
 (pQ:?sG "column" Ya)
 (MA:?sG "one_row" Uj)
 (TX:?sG "mixed" BL)
 (cO:?sG ?nO Nf)
 (pS:?sG "across" Yd)
 (y9:?C K ?b4 ?bM=?sR ?fX)
 (Zb:?sB ?j4 ?fX)
 (l8:?cJ F9=?c ⟨Yt,Ys,?gB (?eS ?bM ?mI (Ip En) (Gj En) (Au En) ?fC Y9 Zp Yg Z7 Py Zt),X4⟩)
 (y4:?eK K Py ?mI=true)
 (Q2:?sB ?bF ?fX)
 (HX:?sG ?qV Rj)
 (n0:?sG ?l9 Ln)
 (Tt:?sG ?lY G9)
 (mD:?sG "_law_whole" Um)
 (MD:?sG "_law_level" Uo)
 (Qq:?sG "_law_without_noughts" Fz)
 (fG:?sG "_law_weighed" O8)
 (FG:?sG ?n8 O9)
 (cQ:?sG "_law_faces_by" Nj)
 (FF:?sG "_law_word_by" O7)
 (Vh:?sG "is_whole_below" Hz)
 (yU:?sG "plus" gK)
 (Tu:?sG ?m3 Hf)
 (Qn:?sG "is_list_of_wholes" Fw)
 (MC:?sG ?r7 Ul)
 (YU:?sG "ones" GK)
 (CO:?sG "list_times" Ng)
 (FE:?sG ?p1 O5)
 (pO:?sG "turned" X9)
 (dF:?C K ?b4 ?bX=?sR (?d Hj))
 (Q3:?sB ?j4 (?d Hj))
 (cA:?cJ Hj=?c ⟨j7,j6,?gB (?eS ?bX ?pF (Ip E7) (Gj E7) (Au E7) ?fC l9 m9 i5 y7 Q6 v7),f9⟩)
 (CZ:?eK K Q6 ?pF=true)
 (N1:?sB ?bF (?d Hj))
 (Wz:Td K Ad ?bM "Stairs.__init__" Jl)
 (CQ:?sG "_law_chain_is" Nk)
 (v5:?sG "_law_border_by" Lw)
 (Zs:?sG "_law_words_with" Km)
 (Qm:?sG "is_place_of_level" Fv)
 (q9:?sG ?lA Lp)
 (iB:?sG ?nV Ro)
 (LZ:?sG ?lU Ui)
 (ID:?sG ?oE Rs)
 (FP:?C K ?b4 ?bC=?sR (?d Jc))
 (Tf:?sB ?j4 (?d Jc))
 (eV:?cJ Jc=?c ⟨bU,bT,?gB (?eS ?bC ?nA (Ip Fm) (Gj Fm) (Au Fm) ?fC cB CN bO DE Tx CU),bJ⟩)
 (FL:?eK K Tx ?nA=true)
 (Po:?sB ?bF (?d Jc))
 (r6:Td K Ah ?bM "Work.__init__" Lq)
 (HZ:?sG ?oJ Rl)
 (v4:?sG ?oV Lu)
 (CP:?sG ?o4 Ni)
 (W1:?sG ?lZ Jm)
 (YV:?sG "fits" GL)
 (MB:?sG ?qS Uk)
 (Qp:Td K Ad ?r4 "Stairs.shrink_row" Fy)
 (cP:Td K Ah ?hB ?n3 Nh)
 (HY:?sG ?g8 Rk)
 (cR:Td K Ax ?hW ?nP Nl)
 (iC:?sG ?fD Rq)
 (Zq:?sG ?fP Kk)
 (v3:Td K Ad ?kH ?nS Lr)
 (Wx:Td K Ad ?j3 ?m5 Jj)
 (Qo:Td K Ah ?i7 ?nC Fx)
 (Ma:?sG ?gC Eg)
 (IB:?sG ?fG Rp)
 (Wy:Td K Ad ?k8 ?lB Jk)
 (pR:?sG ?gI Yb)
 (LY:?sG ?gT Uh)
 (Zr:?sG ?gD Kl)
 (fF:Td K Ah ?i1 ?pP O6)
 (Tv:Td K Ah ?k2 ?mK Hg)
 (IC:?sG ?g9 Rr)
 (iE:?sG ?fW Rt)
 (v6:Td K Ax ?bM ?n7 Lx)
 (Bb4:nS K ?c5 YR)
 (A21:?cJ YR=?c ⟨Ag4,Ag3,?gB (?kU),Ad8⟩)
 (Bb0:?eK K pZ ?c5=true)
 (A27:?sB ?bF (?d YR))
 (c5:?C K ?c6 ?bX=?sR (?d Hj))
 (y8:?C K ?c6 ?bC=?sR (?d Jc))
 (lM:PySem.W.readsIn K Ag (.type "type")=true)
 (LN:PySem.W.findCls K ?b4 (.type "type") ?bM=?c (.val ?fX))
 (lN:PySem.W.specialIn K ?b4 "__getattribute__"=?sR (?pO "type.__getattribute__"))
 (ON:?sB ?fF Ag)
 (oW:?sB ?bF ?b4)
 (LG:?sB ?fF Ad)
 (LL:?sB ?bF ?c6)
 (SW:?sB ?fF Ah)
 (tH:?sB ?bF ?cC)
 (sX:?sB ?fF Ax)
 (TH:?sB ?bF ?dT)
 (NU:?sZ Ag)
 (PD:?sB ?gO Ag)
 (nQ:?sB ?fT Ag)
 (nH:?uV ?b4)
 (qw8:?sK ?b4 ?jR)
 (qw9:?sK ?b4 ?hJ)
 (KZ:?sZ Ad)
 (lR:?sB ?gO Ad)
 (KY:?sB ?fT Ad)
 (KU:?uV ?c6)
 (qx0:?sK ?c6 ?jR)
 (qx1:?sK ?c6 ?hJ)
 (qx2:?sK ?c6 "starts")
 (RZ:?sZ Ah)
 (TQ:?sB ?gO Ah)
 (RU:?sB ?fT Ah)
 (RI:?uV ?cC)
 (qx3:?sK ?cC ?V)
 (qx4:?sK ?cC ?aA)
 (qx5:?sK ?cC ?c8)
 (qx6:?sK ?cC ?dU)
 (qx7:?sK ?cC ?mL)
 (sA:?sZ Ax)
 (tR:?sB ?gO Ax)
 (rV:?sB ?fT Ax)
 (rJ:?uV ?dT)
 (qx8:?sK ?dT ?cL)
 (qx9:?sK ?dT ?pR)
 (qy0:?sK ?dT ?gP)
 (uG:nS K "GAPS" CI)
 (TF:?cJ CI=?c ⟨.type "tuple",?j,.seq #[?f 32 KO,?f 16 KN,?f 8 kN,?f 4 kM,?f 2 KL] sV,mZ⟩)
 (b8:nS K "FACE_COUNTS" Kz)
 (Y4:?cJ Kz=?c ⟨.type "tuple",?j,.seq #[?f 0 Ud,?f 2 Uc,?f 3 Ub,?f 4 Ua] Yy,Wm⟩)
 (dD:?v9 "MOST_ROWS" (?f 40 Vt))
 (MM:?v9 "LEVELS" (?f 4 Os))
 (Z6:?v9 "MOST_PIECES" (?f 40 Qu))
 (bF:?tC "isinstance")
 (Aa2:?tC "int")
 (wD:?tC "bool")
 (QV:?tC "tuple")
 (zZ:?tC "zip")
 (Aa0:?tC "max")
 (Aa1:?tC "len")
 (Aa4:?tC "all")
 (qW:?tC "range")
 (WC:?tC "dict")
 (Aa3:?tC "any")
 (wC:?tC "list")
 (DK:?tC "enumerate")
 (ZZ:?tC "min") :
 ∃fd:FuncData,(∀(s:Shared) (v:Value),BindsTo s fd ⟨[v],[]⟩ [(?cM,v)])/\∀base:Heap,K.In ?e->?q7->?tB ?aS fa:=by
 have e:=hfa.symm.trans (?sU Bb4);cases e;have T:?n2:=⟨?sU QA,⟨NU,PD,nQ,nH⟩,qw8,qw9,?sU MN,⟨KZ,lR,KY,KU⟩,qx0,qx1,qx2,?sU uF,⟨RZ,TQ,RU,RI⟩,qx3,qx4,qx5,qx6,qx7,?sU UG,⟨sA,tR,rV,rJ⟩,qx8,qx9,qy0,⟨CI,?sU uG,fun H=>?a8 ⟨_,_,_,TF,rfl,rfl,rfl,(?tD 5),?dZ ?aP (?lN)⟩⟩,⟨Kz,?sU b8,fun H=>?a8 ⟨_,_,_,Y4,rfl,rfl,rfl,(?tD 4),?lN⟩⟩,⟨_,?sU dD⟩,⟨_,?sU MM⟩,⟨_,?sU Z6⟩,?sF bF,?sF Aa2,?sF wD,?sF QV,?sF zZ,?sF Aa0,?sF Aa1,?sF Aa4,?sF qW,?sF WC,?sF Aa3,?sF wC,?sF DK,?sF ZZ⟩
 have Iu:=cH (st:=En) l8 y4 Q2;have J8:=cH (st:=E7) cA CZ N1;have Ll:=cH (st:=Fm) eV FL Po;have Bg2:=cH (st:=S3) A21 Bb0 A27;refine⟨?kU,fun s v=>.of_eq rfl,fun base _ _=>?_⟩;have uu:=@Br ?aS w K mg ?e h X G;have uv:=@J7 ?aS w K mg ?e;have Fo:=?u6 IA EG;have Gi:=?u8 Vg S8;have Fn:=?u6 iA eG;have N4:=?u8 n6 Yl;have Qe:=?v3 PR (?s1 lD);have HG:=?u8 tX OB;have Jt:=?u6 Vi Ta;have cG:=?u8 pQ lC;have Zg:=?u8 MA GQ;have Ie:=?uU TX (?s1 OC);have Pp:=?u8 cO i6;have Xf:=?u6 pS LD;have Zf:zF ?aS w K mg ?e Ag ?bM ?dD 1 (?rY Mg):=⟨_,_,⟨lM,LN,lN,Q2⟩,?q1,Og Iu T⟩
 have Kv:?uR ?aS:=⟨_,_,⟨ON,y9,Zb,oW⟩,?q1,Og Iu T⟩
 have Mw:=?u6 HX EE;have N3:=?u6 n0 Yk;have Id:=?u6 Tt Ry;have Kx:=?u6 mD gS;have Zi:=?u6 MD GS;have Gp:=?u6 Qq Pi;have R9:=?u8 fG bS;have Sa:=?u8 FG BS;have Gx:=?u8 cQ j3;have R8:=?v3 FF (?s1 BR);have D8:=?vL Vh (?s0 S9 Fo);have pF:=?vL yU (?s0 SK Qe);have Bt:=?vL Tu (?s0 Rz Fn);have Go:=?vL Qn (?s0 Pe Fo);have Cv:=?vL MC (?s0 GR cG);have Q4:=uu YU (?s0 sM Zg) ?O;have Pq:=?v3 CO (?s0 i7 Ie);have R7:=?v3 FE (?s0 BQ Qe);have Ti:=?vL pO (?s0 LB Ie);have L5:?t8 Ag:=(?v8 dF)
 have Js:?t8 Ad:=(?v8 c5)
 have U4:=CF LG LL (P:=l.prog) (w:=w) (base:=base) Wz (?s0 Uu Zf) ?E;have Ja:=?v3 CQ (fun F=>j4 F T Kx Zi);have N6:=?vL v5 (?s0 Yq Gp);have L8:=?v3 Zs (?s0 Ws Gx);have Cz:=?v3 Qm (fun F=>Pd F T D8 Fn);have Fp:=?vL q9 (?s0 Ym D8);have U7:=?vL iB (?s0 EH Go);have Kw:=?v3 LZ (?s0 gQ Pq);have Mx:=?v3 ID (?s0 EK Bt);have J5:?t9 Ag:=(?tN FP)
 have Ct:?t9 Ad:=(?tN y8)
 have CD:=CF SW tH (P:=l.prog) (w:=w) (base:=base) r6 (fun F=>Yn F T Kv Q4) ?E;have U6:=?vL HZ (fun F=>EF F T pF HG);have N5:=?v3 v4 (fun F=>Yp F T Kx Ja);have Pr:=?v3 CP (fun F=>i9 F T L8 R8 Gx);have Ky:=?vL W1 (fun F=>Uv F T N6 R9);have PF:=?vL YV (fun F=>SM F T Fn N4 Cz);have Zh:=?uU MB (fun F=>gR F T Cz Fo);have Cg:=uv Qp (?s0 Pg Ct) ?E;have J4:=uv cP (fun F=>i8 F T J5 L5) ?E;have U5:=uu HY (fun F=>eF F T Kw Cv Bt Mx) (?s7 PL (fun _ _ _ _ _=>rfl));have J6:=uv cR (?s0 j5 Fp) ?v;have U9:=?v3 iC (?s0 EJ Zh);have L6:=uu Zq (?s0 Wq PF) ?O;have L4:=uv v3 (fun F=>Yo F T Cg Ct Js) ?E;have Jq:=uv Wx (?s0 Us Cg) ?O;have F2:=uv Qo (?s0 Pf J4) ?O;have Ep:=?v3 Ma (?s0 K7 U9);have U8:=uu IB (fun F=>EI F T Jt L6) ?O;have Jr:=uv Wy (fun F=>Ut F T Mw Ct L4) ?v;have CG:=?vL pR (fun F=>LC F T Ep R7);have Tj:=?v3 LY (fun F=>GP F T U4 Kv Jr Jq);have L7:=?vL Zr (fun F=>Wr F T Fp Bt Cv Pp CG);have Li:=uv fF (fun F=>bR F T Tj Cv) ?O;have Hi:=uv Tv (fun F=>R6 F T Li N3) ?O;have Va:=?vL IC (fun F=>eK F T CD Hi F2 Cv U7);have Vb:=uu iE (fun F=>EL F T Q4 Va Bt Kw U5 Cv L7) ?O;have cE:=CF sX TH (P:=l.prog) (w:=w) (base:=base) v6 (fun F=>Yr F T Vb U6 U8 Id) ?v;exact XA Bg2 T Pr cE Sa J6 N5 Ky
theorem walk{l:PySem.W.OpenLaw}{q:Program}{loose:?bN Str}{XP:(?iP)->?o0}{YP:World->?o0}{d:DefRec}{K:Params->PySem.W.Frag}(hn:l.most=?c 63)(hdf:d.params.defaults=[])
 (hY:∀(w:World) (h:Heap),YP w h->?jW h)
 (F:∀(w:World) (mg:?iP) (fa:Addr) (h:Heap),?jW h->?pQ->mg d.name=?c (?d fa) →
   ∃fd:FuncData,(∀(s:Shared) (u:Value),BindsTo s fd ⟨[u],[]⟩ [(?cM,u)])/\∀base:Heap,?jW ?e->?q7->By ?aS w (K w.params) mg ?e Ej 14 fa fd ?gG (W6 (K w.params))) :
 PySem.W.WalkO q loose XP YP l.row.toRowW d [] (fun f vs=>PySem.call f vs) :=
 L2.walk_ofB (n:=63) (k:=14) (x:=?cM) (CX:=fun _=>Ej) (sp:=fun w=>W6 (K w.params)) hn ?aZ hdf ⟨rfl,?z,?z,rfl⟩ hY F (fun _ _ a ns hl yF _ hS=>⟨a,ns,rfl,hS,hl,yF,?m4⟩) fun _ _ _ _ _ z=>z
universe Hb
end
structure PySem.W.Fast:Prop where(tw4264873889197660195 tw13691376174544161171 tw4819056587306894319 tw1609363319989683562 tw13638026005632630000 tw15035825728190764560 tw16217538426837949540 tw8387057205832253062 tw10181648753069037998 tw10666404023397495872 tw1809185789876095345 tw10217248551877698193 tw4001748443531648287 tw5032441038505439516 tw17502496007987273794 tw9718249039579101635 tw3344926594159181599 tw18255158790884409272 tw4342735031749230680 tw3042218383061468443 tw6707250056562446549 tw1073997923218417618 tw12946805833192059976 tw14432739950080522886 tw3394735835427492895 tw4515664925078579812 tw18407260441742475371 tw16795676624678596903 tw3741750457701256095 tw16185849514370867447 tw633926002997496141 tw2631266274984256495 tw8309186531122756023 tw2185246062503357425 tw4912804100101354601 tw16452469140274492964 tw17431016609662625023 tw14945548900626011647 tw10910825740187833072 tw752893410289373217 tw12922573726682783702 tw4234387843550692506 tw9054149731345789123 tw3986485441250490629 tw9963310479644124076 tw11630515611808275076 tw15098859311275475435 tw15597568949456241977 tw3592087566424681310 tw16466782771062310197 tw1347772636666813416 tw3537620254217412822 tw9740216307400417557 tw13936524964227579485 tw5536272907921392937 tw17255405109741506123 tw5678764451916140579 tw15083366758705073370 tw14040348356814559070 tw11216243499840836348 tw17437443622385858445 tw4953661710202293854 tw1415319258215311525 tw1281959901597419908 tw14686726879772943821 tw14288303765944861394 tw11199038600712003954 tw16114486288188620853 tw14602458313304846391 tw2923193948992918669 tw7690234820121503293 tw18380306727959515384 tw16889281249805610364 tw3672205063980249749 tw12043128663407879815 tw883917854944469887 tw420195429847146508 tw13604642744460737682 tw15021649816894112619 tw16147567854696494031 tw11934785698664945818 tw17149066206355917618 tw10593655100912099293 tw14837810992164227957 tw15330091893986686960 tw5764901625718438291 tw12059463194237640053 tw17632123713414036148 tw16036042180832146257 tw4367852752642022188 tw15642713490849879624 tw10444151473963336438 tw13505085360826833780 tw8958150275611119539 tw13856773368200906898 tw16215272724375592499 tw14219042044748702342 tw13650444511879676466 tw1892679883167871049 tw15385021632101012790 tw17597319478412672561 tw8248232917681642294 tw18353185095441437514 tw13904215800300262351 tw7175080818425710954 tw3213304252892825495 tw16424191018123638980 tw479924353749548880 tw6942332865046308409 tw2395791517980133443 tw17230539031982152511 tw4797442856596680496 tw359679771768956986 tw10617762553329956291 tw4052443895272749559 tw609915988407206175 tw5805329083441964764 tw10182446189095517053 tw9847526755767979889 tw353850887686044255 tw15129918716248975828 tw8717547537506588191 tw9378675783454806354 tw5169808954170673870 tw16441234312482138964 tw16521645028147004545 tw1578947580710514129 tw5105294463851027063 tw11199321241166628318 tw17020940911020838162 tw15936508621111707277 tw13683449945733595185 tw9593371440960699931 tw2022211543880671097 tw5033260049356436704 tw16679708696875732416 tw17832365539068606675 tw5681683759201205464 tw137404726564985676 tw1714986081258366349 tw15984297737071319856 tw14888295929796822630 tw4109579123822116035 tw5832713026449847475 tw2972195324715100941 tw14230874048444167546 tw9304336892215132663 tw16177178877877849203 tw268597113914410581 tw5112512208563454062 tw16973184518946252834 tw6257109463692011563 tw16817492950203727096 tw16201294935855418709 tw15953218733722880854 tw8389162926416934530 tw16266539549268627790 tw12283286422454812840 tw9222876070843067074 tw16025482739936764731 tw7620570698710935127 tw16924845918102034829 tw7687192727097974472 tw8253593994206381545 tw2548059360307036973 tw7688857571793195409 tw1182632153354456703 tw4886860716099174708 tw6173158879660374998 tw15013975037068273568 tw2616163274315686951 tw5514959937859585091 tw13689016608036407925 tw16821660298434786630 tw12275358228315822043 tw18253460521388201945 tw17661963186434158120 tw2954553473606339852 tw18408999653177281154 tw9637005854086459738 tw8395340464480333244 tw13120104842237247489 tw5483960226616863375 tw15664835300457382568 tw11737312050314157283 tw188136928773204945 tw8237494217806860743 tw1624813119251601258 tw9480570878212561625 tw17019619569565280362 tw12311276239305809018 tw3217292069833695167 tw10561094929375864094 tw4165248523054480796 tw9459198967304380321 tw16311459177393179864 tw15853232919866231431 tw5263943787548057018 tw3433011033562035469 tw14279699520643343641 tw9557936531506582903 tw10804456254449809007 tw11684573504303863083 tw6518363775219504756 tw5916539343765092864 tw8133526469831203674 tw16800372516571998016 tw8856094550549103705 tw11146729794216660569 tw6433810418630707567 tw16633801687980573409 tw763333858621113178 tw9313628760936066761 tw10510382828069234061 tw15373820870723289815 tw11256017385048284883 tw12075998675563318095 tw6816059098489845297 tw4015301110544396939 tw3994082890771847833 tw13496049233119825380 tw5112328316307154078 tw13871607174488363428 tw8069133840317658284 tw14737132424136099558 tw6447915990869937417 tw10946301053885673820 tw18135265851532397933 tw17488526227616753930 tw7915299320059773658 tw9922546579104883337 tw718307146756986060 tw14829295383435768132 tw6703623367252612039 tw5688002733379084291 tw2233609838535212284 tw388068720221105334 tw17927259678063613869 tw8021148478192996713 tw18088662366431345394 tw7832451817927808597 tw16397269344071465047 tw5202930525508035753 tw5137523208729055096 tw9748044421148545814 tw7482848204537489198 tw6350847685020668142 tw7894508586741983669 tw3440162308492863309 tw14372760972061942130 tw13531804136418282266 tw13221601381312677257 tw8719332989533183849 tw2764771995257334656 tw11295489516325920027 tw9463834405417494611 tw18380147531997761227 tw5266535354586325748 tw15308395583036370117 tw2031240300764477041 tw11322976795443261109 tw3200103209598063738 tw84996798382829705 tw792675074568751207 tw10533847471100895729 tw11662222024384693613 tw10652672225247819689 tw17994713305136579366 tw7867604917919030153 tw13989584608144006845 tw6380678137773610107 tw3488537623351916300 tw3597373689589666753 tw5059002934874997638 tw2361986081277119848 tw7270015874791787369 tw15100663006354025018 tw3168280065650803703 tw7984605383424096245 tw13580401598007589291 tw16872036552503039539 tw13647793112281385095 tw3478773287515128006 tw5930647875207738333 tw3241416427175367499 tw740138377612298884 tw12190274081074201652 tw14603984608112936220 tw7789848235282253437 tw12139621901859584419 tw17471259638954453295 tw450525705205613688 tw10148473950012162214 tw16426031724375429736 tw1742363029304761599 tw6652285347295733626 tw5618939896824282536 tw5310480283749634960 tw9217374303919337875 tw15521835814437480181 tw3987128669363143842 tw7204435958416888922 tw6202710591519781890 tw6243107623380905931 tw1449688042533507081 tw5206192561679157154 tw16790084850821487048 tw1982642550498547819 tw6086109885920192184 tw5096096319191012369 tw6770958556208059347 tw9483605786159983860 tw16886202004490800816 tw5616342909155000916 tw2517644083746930303 tw15498505496175173620 tw7712191582814212122 tw15920311536165690830 tw8676847065659621109 tw10534725333484571413 tw12728210558875299187 tw17269636731868138661 tw9158732912001860601 tw10201986384593038690 tw371610713636214771 tw2781863679455153083 tw1321318836013819049 tw14554647798604577659 tw5204213846515348658 tw8410943479412268697 tw15131056873326180570 tw15043710543083308633 tw11670379000025961265 tw17673776123283463266 tw14129604661159752583 tw17419607982682845311 tw15471184829270683326 tw14246933938496503864 tw4824259856073925194 tw1096906519563028486 tw4112595414642583112 tw11053437038797518424 tw4624549390534911472 tw16363302259629044956 tw9401958905564290344 tw13762399534205987847 tw14287362462685288040 tw12352371291603083655 tw3183077657421771554 tw15694861006867872448 tw13768461911559364797 tw8676479879601073877 tw6609256720513444474 tw43582208922462692 tw967418618769824961 tw5477504765272687950 tw9131264831411117678 tw14251263604466251820 tw15265485269653687045 tw1954839590165721093 tw3942023947809717252 tw15246680205248037298 tw7866897014761707906 tw13450292042000558178 tw12530067317246759698 tw6230941151501925038 tw14975421255384027722 tw10628740817342448655 tw233896320170855787 tw4189833162660727352 tw2879316964594784841 tw556678848914727317 tw15610786168784065504 tw18358236569767727701 tw7359089263471114877 tw17205969993980667086 tw1216453976325388795 tw16539438850810207909 tw10312694503314468986 tw13957301151443738447 tw2389644797549342095 tw12310107793346644704 tw3770022040790491366 tw17639364849347124583 tw20278971495860972 tw12241362089177167330 tw8996030182651130851 tw3052005502514721956 tw13011920830927752230 tw8294066183024770185 tw2310114684437967814 tw2937405770281277459 tw3690379364428674665 tw8567661270826573669 tw16000619683340052232 tw5633025297525844802 tw15243648970431878397 tw1859047502909081508 tw14285942341445085084 tw7024457640301550124 tw12782436787534010255 tw16546687425350944695 tw6837179833442249006 tw6775225959069646687 tw8900425605436006240 tw3531165068676612661 tw17355807512110976934 tw4177427387020402623 tw4801651000977711379 tw4747727067411557625 tw14933931349449170335 tw5595029959355645423 tw14190382682634356255 tw16839749466049218650 tw1882506309355571210 tw7569032968348033076 tw17226014827642819769 tw3862019198008719223 tw2936569411221983320 tw4808035016208545877 tw2780603771909748842 tw13560738996223256096 tw11286151980586240015 tw14522563542040665987 tw16452869953510293764 tw11904456433232276054 tw462983658932603734 tw2930342460890299508 tw5346837186960189042 tw364570351180329637 tw2744809298950727730 tw1869253237955857626 tw6717361166399357411 tw7021851325960355012 tw18274923845153563807 tw6246415170044145730 tw11962542568998264630 tw13870467639664369296 tw10302368287983963255 tw8994936763052228211 tw10249792095716285967 tw2052939743697959969 tw1915707211116902947 tw4552659463166211011 tw16640897887695019858 tw14525096072164034289 tw7343390720830028126 tw7570006937386729847 tw5224958554903423355 tw4326526884217888580 tw9525730633051768619 tw11238347959832475932 tw13692669735767139588 tw7907305825714169353 tw8691328529635756789 tw14908652547511511378 tw10259599462018133024 tw5965410162626455925 tw6619152619770960228 tw9446788636575217388 tw12165637380139986299 tw7219684526747759292 tw16723474904080839714 tw9175043876903028772 tw9398800507181669124 tw14078284619409621451 tw7237830313993795216 tw15819022036333181912 tw355032159053354956 tw174716773754704563 tw16897186661913989274 tw4475284389397374172 tw12688160334661442730 tw5211364892575052617 tw3910419138018299517 tw5864659563272203705 tw8881536846311308875 tw594337567857548500 tw14518778520451135568 tw16772082828845675815 tw5196481057396694732 tw10983378465263201239 tw3439021215502846504 tw286013091765450510 tw14426352267549938767 tw6814978353140294003 tw4478796053135944987 tw11129104358051959707 tw1479993807634234083 tw13198914372464061590 tw2875719360578857658 tw16288708300488474042 tw2192526049072666223 tw9500827802983150459 tw425944477093540842 tw9894691456967223920 tw9837277275691614477 tw3042617180058768495 tw9723213942365775036 tw15835143102340471722:True)
open PySem PySem.W PyProof.Rows
set_option maxRecDepth 100000 in
set_option maxHeartbeats 0 in
theorem PySem.Challenge.cw_holebook_k34_rounds_and_gauges_holds : PySem.Challenge.rw_holebook_k34_rounds_and_gauges.Holds := by
 w_on;o_law;k_head;(case hw=>w_witness2)
 k_fill
 refine Hb.walk (l:=PySem.Challenge.rw_holebook_k34_rounds_and_gauges) rfl rfl (fun w h Y=>PySem.W.kIn_of Y) ?F
 case F =>
  intro w mg fa h KX G hmg
  refine' Hb.all_mk KX G hmg ..
  all_goals try delta Hb.nS Hb.nN9 Hb.kO
  all_goals try first | exact⟨_,_,by k_is,⟨⟨_,_,_,_,_,_,_,_,_,rfl,by k_is,by k_is⟩,by k_is⟩⟩ | exact⟨_,_,by k_is,by k_is,⟨⟨_,_,_,_,_,_,_,_,_,rfl,by k_is,by k_is⟩,by k_is⟩⟩ | k_is | kit_is | kts_isx | k_exc | k_qdec | kernel_rfl | decide +kernel
