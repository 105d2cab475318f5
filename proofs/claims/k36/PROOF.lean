import PyProof.Rows.All
import Wide.All
import OpenK.AllK
import Wide.FinOn
import Lean
import PyProof.EqAt
import PyProof.EqKinds
import PyProof.TupleCall
import PySem.Challenge.RW_holebook_k36_lifts
set_option linter.all false
set_option Elab.async false
set_option maxRecDepth 100000
set_option maxHeartbeats 0
set_option compiler.extract_closed false
noncomputable section
local macro_rules|`(tactic|omega)=>`(tactic|first|with_reducible assumption|with_reducible exact Nat.le_trans (by assumption) (Nat.le_of_ble_eq_true rfl)|with_reducible exact Nat.lt_of_lt_of_le (by assumption) (by assumption)|with_reducible exact Nat.le_of_lt (by assumption)|with_reducible exact Nat.lt_of_lt_of_eq (by assumption) (by assumption)|with_reducible exact Nat.lt_of_lt_of_eq (by assumption) (Eq.symm (by assumption))|with_reducible exact Nat.lt_of_le_of_lt (by assumption) (by assumption)|with_reducible exact Nat.succ_le_of_lt (by assumption)|with_reducible exact Nat.le_of_not_lt (by assumption)|with_reducible exact Nat.sub_le _ _|with_reducible exact Nat.le_of_succ_le (by assumption)|with_reducible exact Nat.lt_succ_of_lt (by assumption)|with_reducible exact Nat.le_add_right _ _|lia)
local macro_rules|`(tactic|ac_rfl)=>`(tactic|first|exact .inl rfl|exact .inr rfl|assumption)
local macro_rules|`(command|mutual $cs* end)=>do
 unless cs[0]!.raw.isOfKind ``Lean.Parser.Command.check do Lean.Macro.throwUnsupported
 let some l:=cs[0]!.raw.find? (·.isOfKind `«term[_]»)|Lean.Macro.throwUnsupported
 let d:Char->Nat:=fun c=>if c.isDigit then c.toNat-48 else c.toNat-55
 let a:Char->Nat:=fun c=>if c.isLower then c.toNat-97 else c.toNat-39
 let e:Lean.Syntax->Nat:=fun s=>match s.getId.toString.toList with
  | [x]=>a x
  | [x,y]=>52+a x*36+d y
  | [x,y,z]=>1924+(a x*36+d y)*36+d z
  | _=>1000000
 let f:Array Lean.Syntax->Lean.Syntax->Lean.Syntax:=fun m s=>s.rewriteBottomUp fun x=>
  if x.isOfKind ``Lean.Parser.Term.syntheticHole then m.getD (e x[1]) x
  else if x.isOfKind ``Lean.Parser.Term.app&&x[0].isOfKind ``Lean.Parser.Term.explicit&&x[0][1].isOfKind ``Lean.Parser.Term.paren then
   x[0][1][1].rewriteBottomUp fun y=>if y.isOfKind ``Lean.Parser.Term.syntheticHole&&e y[1]<2 then x[1][e y[1]] else y
  else if x.isOfKind Lean.nullKind&&x.getArgs.any (fun y=>y.isOfKind ``Lean.Parser.Term.instBinder&&y[2].isOfKind ``Lean.Parser.Term.forall) then
   x.setArgs (x.getArgs.flatMap fun y=>if y.isOfKind ``Lean.Parser.Term.instBinder&&y[2].isOfKind ``Lean.Parser.Term.forall then y[2][1].getArgs else #[y])
  else if x.isOfKind ``Lean.Elab.Tactic.Ext.ext then
   match x.find? (·.isIdent) with
   | some i=>match m[e i]? with
    | some t=>Lean.mkNode ``Lean.Parser.Tactic.paren #[Lean.mkAtom "(",t[1],Lean.mkAtom ")"]
    | none=>x
   | none=>x
  else x
 let mut m:=l[1].getSepArgs.map fun x=>if x.isOfKind ``Lean.Parser.Term.inaccessible then x[1] else x
 for _ in [0:((cs[0]!.raw.find? (·.isOfKind `num)).get!.isNatLit?).get!] do m:=m.map (f m)
 return Lean.mkNullNode ((cs.extract 1 cs.size).map fun c=>
  if c.raw.isOfKind ``Lean.Parser.Command.universe then
   let i:=c.raw[1][0]
   Lean.mkNode ``Lean.Parser.Command.end #[Lean.mkAtom "end",Lean.mkNullNode (if i.getId==`e9 then #[] else #[i,Lean.mkNullNode])]
  else
   let c:=(f m c.raw).rewriteBottomUp fun x=>x.setInfo .none
   if c[1].isOfKind ``Lean.Parser.Command.definition&&!c[1][3][1].isOfKind ``Lean.Parser.Term.explicit then c.setArg 0 (c[0].setArg 4 (Lean.mkNullNode #[Lean.mkNode ``Lean.Parser.Command.noncomputable #[Lean.mkAtom "noncomputable"]])) else c)
mutual
#check(4,[?a,?b,some,∀(K:W.Frag),a,wpAny,∀(I:?A),a,.inr,X.env,.inl,.int,(?pM ?aP X.w),X.xe,.ref,decide,?p V,List,(?Q),?c o,if_neg,absurd,.nil,.non,?p ?aA,.lst,.(by obtain⟨t',rfl⟩:=ry),s.heap.objs.size,?VY H s,?p Int,if_pos,s.heap,.cons,∀{A:Around},a,.tup,?j i,?c v,its.toArray,(Cr I q ?q),?p Str,St->?a5,∀(Ad:Bn) (s:Shared) (σ:St) (H:Hp),a,∀{Ad:Bn}{σ:St}{H:Hp}{s:Shared},a,Vals,.(by simp),.(by simp at hf hg;subst hf hg),∀{us:?w},a,?c u,pure,Reps,.(by intro Ad s σ H Q I h),?YM b,name,∀(hK:X.K=K:=by rfl),a,∀{pos:Pos},a,none,.seq,outer,∀(xs:?o),a,Hp->Prop,.builtin,Fw fam w,p.isList,∀{E:?fW},a,Value,?m a,(?cO),.type,?p D,(by omega),∀{K:W.Frag},a,(i+1),.(by decide +kernel),∀{es:?g9},a,.(by simp<;>omega),∀{u:Value},a,qual,eval,(?dG),X.prog,(n:Int),?c ?q4,?p Addr,I.hok,base,H p=none,.(by simpa using hb),∀{s:Shared},a,I.list,?aD ?dM,xs[i]?=?cL,[a,b],.none,?P xs us,I.kIn,∀(H:Hp)(Q:VK),a,.(by exact qb2 e),bootBuiltins,(?hH),compareOp,Option,I.bare,(EP X Ad σ Q),?Y3 a xs,(?qU),?c c,(?aB),(?QM),s.heap.get?,.Call,?ZF w,(?pM prog w),.(by obtain⟨x,H1,I1,r1,q1⟩:=_z),∀{a:Addr},a,xs.length,I.tuple,.bl b,RelV,?bI b=?r,List.replicate,.BoolOp,.(by ext aK),?dJ _,?dY H H',.(by ext aI),2 ^ 62,?k7 a,V.int,?bA Int,?i0 ?aA,(?m f),k _ _ ?dP e,ObjOk,∀{P:Program}{w:World}{K:W.Frag},a,∀(x:V)(y:V)(H:Hp)(Q:VK),a,∀(X:Cx)(Ad:Bn),a,∀(w:?B),a,∀{xs:?o},a,∀(a:Addr),a,args,sIx ?wE 0 lo,fun b hb=>?_,"int",kindOf,?c ?lH,true,(x=?aB),?c x,?o->?rC,Pa.2,qa1 _,_::_,?p Env,?aD ?eB,false,.bool,Bool,(?m it),I.freeC,?c j,(e::es),?bR v u,.Attribute,.(by intro X hP hw hK hc i Ad s σ H E I hf st hg;subst hP hw hK),.(by exact ?S9),∀{Q:?fW},a,∀(hc:?pY),a,∀(us:?w),a,∀(s':Shared),a,∀(s:Shared),a,∀(h:Heap),a,∀{h:Heap},a,?hF σ H,scope,False.elim,X.base,Pv i σ H,(?HV),?m p,Ed K H a xs,Pv i ys τ H,.str,congrArg,I.free,"list",?j _,?pS=?r,(?h8),?c .local,?aY hq,deps ds,?oX x=?bF,?p (Str × V),dJ h0,?bR x v,[?aB],Same,.(by intro Ad s σ H x y v u Q I rx ry h),∀{fp:?aS},a,∀(vs:?o),a,∀(u:Value),a,∀{H H':Hp},a,∀(C:Addr),a,(.ListComp elt [⟨tg,iter,ifs,0⟩] sc pos),?i z,assign,?dJ x,?YK v d,?X9 xs.length,"tuple",Str->?lI,qa2.mp,?gT ?bO 0 lo,Pv ?aH,starEach,Shared->Prop,W.findIn,s'.heap,List.range,?m ?z,.Name,.bl _,?p Stmt,?bR x u,(?A2),(qb2 e),I.cell,X.mg,fam<0,?YS vs ds,.(by simp at h),.(by ext aW),(?x ys),∀(x0:A0) (x1:A1) (x2:A2) (x3:A3) (x4:A4) (x5:A5) (x6:A6),a,∀(Pv:?QH)(h0:Pv 0 [] τ H),a,.(by obtain⟨a,vs,rfl,q,r⟩:=hy;cases ry),.(by cases (show V.ref a=_ from h')),∀{K:W.Frag}{a:Addr}{xs:?o},a,∀(ha:?M7)(hb:?XK b tb),a,.(by obtain⟨t,rfl⟩:=r),∀(P:Program)(w:World),a,.(by simpa using this),∀{ws:Aq}{fam:Int},a,∀{i:Nat}{x:Str},a,∀(r:?cZ),a,∀{vs:?o},a,fun v s1 _z=>?_,[a,b,c],codeAny,?P vs us,w::r,?s hk,qc0.mp,?bP hq,s.heap.push,sIx ?wE ?wE hi,(?VX he h),"enumerate",fun _ _=>False,(?x []),backTo,⟨_,rfl⟩,s1.heap.objs.size,(n,k),d::ds,(g i j),?aA->?eH,"zip",(1:Int),?G ds,X.stack,body,(?pM P w),(qo1 _),binaryOp,(vs++dvs),fun _=>none,qc1 _ rfl,t σ H Q,?p Expr,I.tok _,?p (Str × Addr),∀(hf:?y9\/?WI ?dQ:=by ac_rfl),a,∀(h0:p0) (h1:p1) (h2:p2) (h3:p3) (h4:p4) (h5:p5) (h6:p6),a,.(by obtain⟨f0,f1,f2,f3,f4,f5⟩:=?D7),.(by intro Ad s σ H xs us Q I r h),.(by intro Ad s σ H D I h),.(by obtain⟨t,rfl⟩:=rx),∀{vs:?o}{ds:?aE},a,.(by have e:¬?j8:=O9m),∀(he:?z2),a,∀{xs ys:?o},a,∀{ns:?B},a,.(by rw[qc2,←hl]),∀{w:?B},a,∀{fam:Int},a,∀{v:Value},a,∀{α:Type},a,vS lo n,HT.sIx,(?m D),I.laid,?ZZ e,lv fam w,I.pin,i<=xs.length,.function,h'.get?,g x σ H' fun σ2 H2=>tb ?EG σ2 H2,.fields,(?eL),v=?aB,b≠X.env.locals,K.lookup,?i rfl,(?bK),s₁,items,?g x,pl.isList,vs.toArray,D.nx,(Fe ns),s.heap.objs.size+1,I.base.free,I.os,?p (Str × Value),?s ?aF,(k:Int),?p α,f∈ws,Value.bool,Nat->?mU,?E r t,X.N[i]?=?cL,{ s with toks:=?xQ },sc.names,(O9m),(?J2),Value.ref,(k+1),Itz K a b,Array,?h1 b,2 ^ 63,(?m x),(ys++[y]),W i m σ H,J9 xs lo hi,?eM x px,I.ok.kind,?P xs its,?C hk,Ite K a,"bool",(fun z=>?qI),(∀σ' H',?rP->∃m',m'<m/\W ?aH m' σ' H'),0<fam,H' b,(?tF).any,H l=?z8,fun x H' y=>?_,(?g4 .Add),r.get,0<=i,.(by cases (?ZQ ?bQ);cases (show v=?hP b from ry)),.(by cases (?ZQ ?v);cases (show v=Value.none from ry)),∀(F:Bw ?aP X.w X.K ?eT ?dD CX k f fd ps sp),a,∀(hd:?E8:=by decide),a,∀{te:TE}{D:Addr}{Q:?a5}{τ:St}{H:Hp},a,.(by simp only[qc0,qf0,or_false]at hf),.(by cases (?ZQ ?H)),.(by cases (show y=?dJ z from hy)),.(by by_cases hlt:?MJ),∀(hf:?xI),a,.(by have e:?ZL i:=O9m),∀{prog:Program}{w:World},a,∀(ha:?RW),a,∀(Q:?ED),a,∀(Q:VK)(x:V)(H1:Hp),a,∀(lo hi:?c2),a,∀{b:Addr}{o:Obj},a,∀(ns:?B),a,∀{x:?B},a,∀(A:Around),a,(?eD hi).1,fam=0,bindC,Db ws acc fs,(by simp;omega),?c w,qa7 _ q,bindL,?bR y u,"str",Heap.SameBut,(by ext mA),qa7 _ e,V->?rC,(?VX ha h),(ps.zip us),?j b,UG.names.lookup,QX h0,?YR us,Ne.symm,?gT ?bO ?bO hi,eqDs a b,sc.names.lookup,u=?hX a,OD ?g0,(?YO e rfl),?V X.K H vs ds,x::xs,(?x xs),sp vs H Q E,(?I),c.nocell,?a07 b,?p Keyword,DE ?pN H,h.get?,scope.names.lookup,hf b hb,QW h0,(?dH),?s ?q,b ∉ ch,b ∉ ex,holding,(∃m,W 0 m σ H),fun _ _ q=>q,(xs.length:Int),"range",SameX,⟨x,H1,I1,r1,q1⟩,{ s with heap:=h' },X.env.kindOf,Fn ws rows,Q ?aO H',ns.map,?a07 c,V->?c2->?c2->?rC,(a:Addr),K.In ?D,(xC X H d),vs[i]?=?I,Gw k A,LT K H ?bG xs,IsTup,?ZZ o,V->?a5,?xT ?aM ?dB ?z f cd,below,?x ds,?eT x,?j (lo+i),?c ?a1,(?YK x d),?fK ?x3,Ux H H',Paired,(?YO ho rfl),rv.get,x∈acc,(?a6 id),Q v H',.free,?bA ?aA,?bA V,b≠e,?nE ?aC,qa8 _,?c y,V->?cM,.(by simpa using hv),(?WF a o),I.loc,I.kept,dD ws f,X.base.get? b=?r,I1.hok.fresh,xs=[?dG],call_meets,(?cT ?cJ),∀(he:?x8:=by rfl),a,∀(s:Shared) (Q:?fW) (E:?fW),a,∀{X:Cx}{sc:Scope}{N':?L}{cap:?p (?bA Nat)},a,∀(hb:?CD)(hd:?PP)(hx:?LA),a,∀(hdb:?E8:=by decide),a,∀(hd:?ZM ?bO),a,.(by obtain⟨_,_,z,_⟩:=h';cases z),∀(mg:?eC)(base:Heap),a,∀{mg:?eC}{base:Heap},a,∀{Ad:Bn}{s:Shared}{σ:St}{H:Hp},a,.(by rcases ?fI h with e | e),.(by simp only[qc2]<;>omega),∀(E:?fW),a,.(by obtain⟨t,rfl⟩:=ry),∀{Q:Unit->?eH},a,.(by have e':¬?eU:=O9m),∀{m:?eC},a,.(by exact ?fR),∀(outer:?cQ),a,∀{vs:?w},a,∀(ha:PT X a tA),a,∀(x:?u5),a,∀(hr:Gw k X.A),a,∀{g:TG}{tc:TT},a,∀(p:?B),a,∀(ds:?aE),a,∀(fs acc:Aq),a,∀(hg:?q9),a,Itl K a,.(by simpa using hx),I.turned,Nat->?M,h2 f hf,H a=?r,(?WR x ?cY),qd7 h1,.(by ext sD),[b,c],((p,w)::?vB),(tOp r ta tb),(x=.bl c),?nQ s'.gens,.Compare,"isinstance",vs=[],k b u q,(by simpa using hu),(?t3),Vis ?z0 x,I.step,Itt K a,I.hok.fresh,?c (?y4),fun b hb=>(?k9).1,W.fnOf x ?aM (Ji st) (G6 st) ?rN ?b2 kV doc pm an Dp ct,ForInStep.yield,fun b ob q=>?jD,?eS x c e,(?SK),F4 X sc N' ?zX s H fp,(hi-lo).toNat,.(nomatch h),?Y3 b ys,AllBare,(?G xs),X.outer,?j n,(?mR),(?eM x pos),?m l,o.slots,IntsAre vs ns,?iG=none,fun _ _ _=>False,fun b o e n hb hx=>?_,fs.map,⟨H1,I1,q1⟩,.Tuple,A.deeper,ys[i]?=?lN,(?bK).map,env.kindOf,qn6 _,?C hj,.(by simpa using h1),pos.line,X.env.locals,z9 _ _ hc',concat_meets,(x=?nW),behindInMarks op b=false,ds.any ?OK,?x5 K ?c4=true,?c (?tP),r.inj r',(?o4 es x1 tpos),2 ^ 64,I.ok.bs b o e,getItem,s.heap.FunFrames,I.base.keep,(HJ sS),?x _,ys.length,?i1=?r,.(nomatch e),X.env.cells.lookup,hfresh,Xa X sc N' cap,fun b o e=>?jJ,?YM l,fs.lookup,(x=?H),.Constant,PySem.W.instObj,?i i,?c (.own a),[z,TI,TO,i1,i2],(neC b o e hx),IsPart,?p (?IP),swapsWith,s.heap.update,callWith,(?EC pos (keywordEach [] ?h)),At t u D σ H,True.intro,Sum.inl,{ cls:=?aZ,data:=?a2 ?hE },?VY H' s',(start N vs),model,s₁.heap,s.heap.IsCell,.bl ?cS,(fun m hm=>?_),w::vs,?k7 b,⟨xs,q,?cO⟩,h3.get?,?m b,bs[i]?,(?pV),?a07 X.calm,Obj.mapSeq,ht.typeIs,sc.kind=?h0,(?nD),(b,o),.cell,fun r s4 _z=>?_,?s hj,hf b hb',(?j i t),Gl X x,(k,x)::r,(?YO ho2 rfl),?E _ t,Sum.inr,.Assign,(x:V),Nat->?K5,I7.unpinned,.(nomatch z),(?m t),I1.list,fun u s1 _z=>?_,"dict",?Y3 a ?nA,.bl k,?C h,{ s with heap:=h',toks:=t' },((?S6:Nat):Int),.Subscript,?U ?cS,?m C,h1.get?,(d:L2.D),.call,fun σ2 H2=>tb { D with nx:=?eF,ct:=?eF,bk:=D.nx } σ2 H2,b≠it,?c ?nR,I.len,k.toNat,xs.getD,value,It->?a5,qf4 _ _,?gX=0,cells.lookup,?p L2.D,I.ok.above,(y xs q),?W8 Hp VK,(?lW),?c0=?r,∀b xs,H b=?r0->?iG=?r0,assignEach,?b7 x,(c.cells I.ok),a.length=b.length,(?m sl),I.list_inj,s.toks,(Au st),IsPair,N σ' H',env.cells,b ∉ X.fs,∀{g:TG}{tb:TS}{D:Ends}{σ:St}{H:Hp}(Pv:?mU)(h0:?RF),a,∀(hN:X.N.Nodup)(hi:?hS)(hx:?v0),a,.(by obtain⟨o',e1⟩:=I.base.there b o e hx),.(by obtain⟨b,ws,rfl,q',r'⟩:=hy;cases ry),∀(k:∀b u,?z6),a,.(by obtain⟨b,ws,z,q',r'⟩:=h';cases z),.(by (ext m5)),.(by obtain⟨its,_,p,_⟩:=?bP q),∀{kindOf:Str->?bA NameKind}{x:Str},a,.(by obtain⟨its,_,p,_⟩:=?aY q),.(by obtain⟨⟨old,h1⟩,h2⟩:=st),∀(R:?r5)(vs:?o)(H1:Hp),a,.(by have e:b=it:=?eX),.(by rcases ?fI hb with rfl | hb),∀(x7:A7) (x8:A8) (x9:A9) (R9:LO),a,∀(hn:x≠"__name__":=by decide),a,.(by obtain⟨e,y⟩:=y;subst e),∀(H':Hp) (i:?pK),a,.(by obtain⟨a,vs,e,q,r⟩:=h),∀(r:?lO),a,∀{f:?SG},a,.(by rw[Ai (Ao q hn)];exact q),∀(sp:Sp)(dvs:?o)(E:XK),a,∀{kw:?hK},a,∀(cap:?p (?bA Nat)),a,∀(h0:p0) (h1:p1) (h2:p2),a,∀(x0:A0) (x1:A1) (x2:A2),a,∀(hu:X.A.units+n<cLine),a,∀{P:Program}{w:World},a,∀(c:?oZ),a,∀{x1:Nat}{tpos:Pos},a,∀(R:?r5),a,∀(a:?Q8),a,∀(its:?w),a,∀(ws:Aq)(fam:Int),a,∀(g:Int->?tU),a,∀{e:Expr}{te:TE},a,∀(fp:?aS),a,∀(ha:?M7),a,∀(hl:?XK l tl),a,∀(r:?fF),a,∀(h:?ND),a,∀(x:?bX),a,pyIter,ys.length<sizeLine,D->?cU,dx≠x,?kQ ?c1,wpAny_Name,?ZZ a,?eG ?cY ?h,s'.os=s.os,xs.drop,_::_::_::?cP,Nw ws fam,q _ (?lL),?fI (?KP b z),⟨us,[]⟩,⟨o,ho,hd⟩,?fQ pos (?uM),x∈?wJ,acc++its,?WF p (?G [x,y]),attributeBase,pa.isList,eqD e d,?PH+?dS<cLine,Mu.new _ _,I.ok.bsz,?c ?c4,I1.laid,Rep X.K H v e,jR P w K mg ?aU A ?a3 s H,h.objs.size<=a,Int->V,?YM D,Dn K C f,?dC hq,o.cls=?cR,?rG es ?h,tn i ?D,.(by ext AN),Un.kept,⟨a,b,c,rfl⟩,I.base,Ry P w H h,J.go i H,kk c o hc e,getMethod,X.pn++Ad,x∈ws,?p5 C ?z,{ cls:=?aD ?kJ,data:=?h3 #[?j lo t,?j hi u,?j 1 v] },(?aD T),.(by simp[Fe,eqDs]),?Z6 ns,x.2≠NameKind.cell,.(by simpa using h),.(nomatch hf),H1 a=?nF,?C ?q,?YM ?z,?eG es ?h,(?NB).symm,(y=?pV),putF f y fs,standAt,j<xs.length,Cls X.K C,?a07 (?xM),AI X.env.cells ?hU [],eqDs_refl,a<h.objs.size,∀f∈?bK,?hO,?p2 m=none,?W8 Int Int,Loc ?z0 x,getAttr,I.ok.noex,[e,it],I1.kept,Builtin.Slice.slicePlaces,fun τ2 H2=>tc τ2 H2 fun b H3=>if ?k4 then te τ2 H3 ?QZ else Pv ?aH ys τ2 H3,{ s3 with heap:=s3.heap.push { cls:=?aD "slice",data:=?h3 #[vl,vu,?b2] } },(?fK ?uC).objs.size,w.drop,(f v u),P.zip vs,callerA,DB ?aT e,h.IsListIter,(hs.2 b (?Y0 ?eR (I.ok.cab x c hfn hc))).trans,?hX ?b8::us,?kF [ov] (?u8 ov m pl),?XF 1,k b o hc e,?c6 P w H h a o,PySem.W.methodObj,xs.length<=i,Sem ?cU,⟨h0,?_⟩,if c then A else B,∀b o u,H b=?zK->?iG=?zK,.(by simp[h]),H b=?T,?uQ apos.atName,Or.inr,putF f v fs,?c (?x us),its.toArray.size*k.toNat,fun h' eb=>⟨rfl,?WU (fun b o hb e=>eb b o hb e)⟩,I1.fpOk,?c ?xR,?YM a,[?H,?j j],xs.map,(bK i),W.isFn K ?c4=true,?X3 e,?bA HO,h3.IsListIter,sc.names.all,⟨n,?Q,?lM,h0⟩,?jO p.1,if ?M4/\f ∉ acc then acc++[f] else acc,.(by simpa using h2),items.size,(n,NameKind.free),n=?cG\/n=?iC\/n=?jG\/n=?eB\/n=?dM\/n=?qM,∀f,Nq (?p2 f) (mA f),?o->?a5,?Z2 acc l,[a,b,c,d],Rep X.K H x d,?dC hq',pb.isList,tb σ H1 Q,Fw fam v,its.toList,(sizeLine:Nat),k b o (fun z=>hc (by simp[z])) e,.(by simpa using e),?ZZ b,?aN e env,?jU x=?aR,?n (a=b),Ai (qd1 lb),PySem.W.plainGet,(xs:Aq),s3.heap.objs.size,its.toArray.size,PySem.W.emptyDict,its.length,W.keepIn,?p (?lJ),env.cells.lookup,?t6=?RO::?uM,seqIndex_neg,?c ?k2,Ed K H p ys,BindsTo,x∈?jA,h.Ns1 dx mA,fun f=>(?lT:Int),mA ?Y,qb7 hQ,∀b∈fp,Rl X Ad H b,(j:Int),?s hz,(f,first),?Y6 k,(n,NameKind.cell),fun c hc=>?_,H c=?r,s.toks+1,{ cls:=?aZ,data:=?a2 ?J n },H p=?z8,envOfC,?fT::r,.(by simpa using hk),Nt K fd ps [],.(by rw[q];simp),∃a b c,w=?fD,⟨v,H,I,r,h⟩,wpAny_standAt,seqIndex_of,(i:Int),d0::ds,.ins C dx fs,if v<0 then(v+?aQ).toNat else min v.toNat n,.same _,PySem.Within,?Y3 p ys,X.fn x=true,Result->?eH,I.ok.mod.kin,?c2->?a5,⟨e,?_⟩,s.TypeIs,fun _ _ z=>z.elim,Rep.inj,-?aQ<=i,noFill_tuple_add,SqL X.K H p ys,kk b o (cQ b hb).1 (cQ b hb).2 z,?j fam,Pv i zs τ H,imms ds,Ed X.K H p ys,?wF∈sc.names,relabel sc ?h,isTrue,Data.fields _=Data.cell v,(x,NameKind.free),w.length-1,u.keep,seq_tuple_add,p'.isList,?l5=none,ws++[w],X.env.scope,W.codeIn K Dp ?aM=true,?XK e te,fun p hp=>?_,Reps.same,X.s₀.heap.get? b=?r,?pS=?T->?i1=?T,?dY H H1,?c ?k0,.FunctionDef,if w∈ws then ws else ?yZ,J.stop i H,⟨_,?g7,rfl,rfl⟩,u=Value.none,o.dict=none,((0:Nat):Int),List.foldl,sliceBounds lo hi ?a1 n,ds[i]?=?c d,c.kind,?c (?QX),Aq->Aq->Aq,.UnaryOp,(hs.2 b (?Y0 ?eR ?rA)).trans,C6 ?LT,k b ob q,FnScope,?XG C,ws.findIdx,I.write,?aA->Sem ?aA,(i==j),?VY H ?kM,H2.objs.size,?VY H ?qQ,N'.zip cap,typeIs_int,H4 D=?c ?eY,?w3 tI,r.append,p.getD,qa0 hj,PA X es t,ws.toArray,Q () s',i<vs.length,(?fQ cpos (?uM)).any,i.toNat,.bl ?cJ,s₁.heap.Ns,∀vs H Q E,?k1->?GK,.(by rcases Sa h with⟨h0,⟨a,rfl⟩|⟨a,b,rfl⟩|⟨a,b,c,rfl⟩|⟨a,b,c,d,rfl⟩⟩|⟨h0,rfl|⟨a,rfl⟩|⟨a,b,c,rfl⟩⟩|⟨h0,rfl|⟨a,rfl⟩|⟨a,b,rfl⟩|⟨a,b,c,rfl⟩⟩),.(by refine ?g ⟨?S2,?eF,fun ys' τ' H' p'=>?QT,?iJ⟩),.(by refine ?g ⟨?S2,?eF,fun σ' H' p'=>?QT,?iJ⟩),∀(hch:∀b∈ch,?RL),a,.(by refine⟨fun i m ys τ H=>m=xs.length-i/\?gZ/\?dI,?FA,?_⟩),.(by refine⟨fun i m σ H=>m=xs.length-i/\?gZ/\?dE,?FA,?_⟩),.(by rw[show putF f v (?qA)=(if k=f then(k,v)::r else(k,x)::?P8) from rfl];by_cases hk:k=f),.(by have l1:=r.length;have l2:=r'.length;have l3:=rv.length;have l4:=WC.length),.(by unfold Ax;rw[?hL,?kC,?hL];rfl),∀(hs:?x8:=by rfl),a,.(by have hc:(i=0/\j=1)\/(i=0/\j=2)\/(i=1/\j=2):=?JP),∀(A:Around) (outer:?cQ) (s:Shared) (H:Hp) (vs:?o) (Q:VK) (E:XK),a,.(by obtain⟨its,r',pl,hz⟩:=?dR;have hlen:=r'.length),.(by rcases hc with⟨rfl,rfl⟩|⟨rfl,rfl⟩|⟨rfl,rfl⟩),.(by obtain⟨σ',H',I,q⟩:=h;exact⟨σ',H',?QB,q⟩),∀(hs:∀x,foldedSetIterable iter ?h x=?U x:=by intro _;rfl),a,.(by intro Ad s σ H x v vl vu lo hi sl Q I rx hs pl pu h),.(by subst e;exact ?vZ ?aC (?lV ?aC)),∀(hl:∀i ys τ H,?gZ->?dI->?bD),a,.(by simp only at hc hd hc2 hd2;subst hc hd hc2 hd2),.(by obtain⟨sl,e1⟩:=?Y7 ?NM hx),.(by rcases hc with rfl | rfl | rfl | rfl | rfl),∀{t u:TS}{D:Ends}{σ:St}{H:Hp}(P:?M),a,.(by cases rx;obtain⟨u,rfl,ru⟩:=rv.one),.(by intro Ad s σ H x vs v us Q I rx rv h),.(by obtain⟨z,its,n,r,hl,e⟩:=I.lstM hH),.(by obtain⟨its,r',pl,hz⟩:=?fJ),.(by show X.A.units+1+?dS<cLine;omega),∀(e:H a=?nF)(c:?uS),a,.(by by_cases hk:?uT),.(by obtain⟨e,n,ne,nf,d⟩:=?EB),.(by rintro i m ys τ H ⟨rfl,hi,p⟩),.(by simp only[qc0,qf0,or_false]at hc),∀(hu:?MG),a,∀(x:V)(lo:?c2)(hi:?c2),a,.(by have z:b=it:=?eX),.(by rintro i m σ H ⟨rfl,hi,p⟩),.(by obtain⟨o,es',ep,ho,r⟩:=hm),.(by exact ?VW hb Q),.(by obtain⟨od,J,hl⟩:=I.look),∀(σ:St)(H:Hp)(Q:?M),a,∀(ho:?XB (?b9 op) r),a,.(by cases (show ?n7 from h)),.(by rcases hc' with rfl | hc'),∀{fd:FuncData}{ps:?L},a,∀(hok:Ry ?aP X.w H' h'),a,∀{c A B:Prop}[Decidable c],a,∀(hz:?GL),a,∀(prog:Program)(w:World),a,∀(sc:Scope)(N':?L),a,∀{mA:?eC},a,∀{X:Cx}{Ad:Bn}{σ:St},a,∀{a b:Expr}{ta tb:TE},a,∀(i j:Int) (t u:Tok),a,∀(h:?eV),a,∀(h:Ed X.K H a xs),a,∀{B:Addr}{H H1:Hp},a,.str_bool c t b,Rep K H' v d,?YP (hm b _ q fun z=>z),r xs H Q,EqD X H s d,?W9 qb7 ⟨_,rfl,qb7 h⟩,PySem.W.handedIn,H b=?r->?iG=?r,∀d∈ds,?C4,fun i=>(?pW).getD ?cJ,fun z=>(hch c z).2.2.1 x c e rfl,(a+b)%fam,{ s with heap:=h',toks:=tk },Nt X.K fd ps ds,call_list_seq,?M1 ?b8 scope.names [],fun b z=>?t z (noA b),SH K xs H Q,?pA vu hi,.(by have:=r.un;omega),fun i H=>∃xs x,?bD/\?b0,(?pI a:Key),h.objs.size,PS X st t,Ra _ _ hv,∀name,?FM=?c (?xG),UnaryOp_,.int_int c t i t',?Y3 a us,⟨rfl,fin⟩,{ s with heap:=?IC },.tuple_int i t' p O9m,(?jR hb),PI X tg iter wi,fun f hf=>?_,i.toNat=j,Or.inl rfl,?vE it a i,?yT∈sc.names,s₁.heap.get?,.(by simpa using hs),.bool_int c i t,?a0B xN,hf it ?q,(?l2).kindOf,Addr × Obj,F4 X sc N' C s H fp,?i0 UInt8,?yR e ?h whole,⟨xs,ys,qa,qb,O9m⟩,?o->?M,subscriptTail_builtinR,.(by rw[sizeLine_eq];decide),Y3 fp s5.heap,fun w hw=>h w (qb9 _ hw),∃t,u=Value.bytes b t,H dx=?p7,⟨ho,ho2,?_⟩,PGs X es t,(us++ds).length=ps.length,Bo (X.wish E) Ad σ H s,w.length=1,dU ?LT&&ds.all (fun e=>Dr xs e (?zO-1))&&(?n (?zO<2) || Mr xs (ds.map vZ)),op≠.In,?t (show b∈([]:?aS) from z) ?q,κ × Value,uZ.extBut,ns.length<=n,(vs=[x]),qa6 (W2 xs lo hi) hz,(?fQ cpos (?t6)).all (fun x=>!x.1)&&(?EC cpos (keywordEach [] ?h)).all (fun x=>x.1.isSome),?bS/\?X,.(by rw[qc3];exact hz),fun j y v' e1 e2 e3=>?_,Calls.Name_function_global,?kN x=?aR\/?kN x=?cI,?a09 (?G ys),qb9 _ hv,?v4 (t':=s1.toks) ?p0,fun b=>?_,(x==("__debug__":Str))=false,?a09 ?eY,.bool_str c z t,?gY p hp,backToKw,?cU->?a5,?VY H ?CC,subscripted,{ D with nx:=N,ct:=N,bk:=D.nx },builtinsNs,?a0B XM,?d0 o f pos',[s1.heap.objs.size],us'.toArray[j],h'.objs.size,⟨z,H3,I3,r3,k,e,q3⟩,?a0B SG,hb wh Ad s1 σ H1 Q I1 q1,(mixKind prog w).is,(fam:Int),w.length=3,?XK ?nV (tC v),(?m i1),.str_int c t i t',∃t,u=Value.str x t,ih _ ?IM,?eS x a (ltc x a e),⟨xs,ys,xs[i],ys[i],qa,qb,?bV,?bV⟩,rV X.K C m g,(?tZ).findIdx?,b ∉ X.ex,F.slot_int_rmul,∀b ps,H b=?c (.tbl ps)->∃more,?iG=?c (.tbl (ps++more)),lo+?zF*1,⟨σ,H,I,h⟩,?pA vl lo,qd6.mp hf,?b4 a o hk,⟨?bO,?Q,?lM,h0⟩,∀v,o.data≠?q4 v,?HX I r r',SI R vs H1,⟨_,?g7,rfl,rfl,_,rfl⟩,e=x\/H e=?c (.own x),wpAny_isTrue_Compare1,.compLoop,?YT a sysModules,b∈X.fs,?a07 (?PU==0&&?fY==1&&(?fL-?cE)==items.size),(?m i2),PySem.W.lookIn ?Y od,(?vV).map,CE ?a3 P w H s Q u s',?WF ?z (?G [x,y]),(d6 ?rI),GU K xs H Q,vJ ?z0 X.N sc N' cap=true,⟨?j ?oU,H,?gA,⟨?xQ,by rw[qc2,hlen]⟩,q⟩,∃u,?h1 e=?T,.(by rw[Ai (T8 b _ z)];exact z),?zQ N ps ?dB,(?bT k its).flatten,I.ok.exfs,H1 p=none,hd σ H pp,SJ K R x H1,(ql3.mp hp).elim,Builtin.List.listTooLong,(eqD d e),?VU cd,I.base.frzs,s.heap.Ns ?oD m,.(by ext UL),fun i H=>∃xs,?bD/\?vM,.none_list ?a8 O9m,⟨?o1,?o1,?hI,?OE,?I8,?G6,?OI⟩,.bool_list c ?a8 O9m,?j (j:Nat),?XK ?nV (Ai8 i),ob.slots,qp0 (pl:=pl) (Dq ?fM ?qL) ht,?ZH (?ZZ ?nV),W m σ H,R x y H2,vs.length=ps.length,?X9 ys.length,⟨y,H2,I2,r2,q2⟩,XH K f D σ y x H2,(n,v)::r,fun p hp=>?t hp (by simp[F4]),subscriptTail,.tuple_bool b p O9m,(vs++ws).toArray,(?qD a:Key),.str_str c t z t',wpAny_assign_Name,∀σ H,Pv ?bO σ H->?dA,fs.length<1000,XI K x lo hi H Q,V.ref ?b8,r x y H Q,.str_tuple c t p O9m,Z9 ds es hl,.int_bool c t b,{ s with heap:=h₁,toks:=s.toks+([]:?hK).length },?eM x pos',dep d<=?dS,?aT p _ hk,.none_tuple p O9m,?gT ?x4 0 lo,hb b hb',xJ K x lo hi H Q,hl i σ H hi p,xs.eraseIdx,us.toArray[j],(?cS,?t5),fun z=>?_,sM K R vs H1,(vs=[y]),(?YO rfl r),w.length=0,Oh ws fam n layer rows,fun i x v e1 e2 e3=>?_,(its.toArray.size:Int),fun b o e=>(e0.bs b o e).1,⟨n-?aH,O9m,rfl,hlt,p'⟩,z9 _ _ z,∀x:Str,x≠"__name__"->mb x=?rH,.int_str c t z t',.tuple_none p O9m,o.data=.dict es ep,I.ok.hd hc,∃o',?i1=?c o',Reps.inj,∃u,us=[u]/\?eP,SN t u vs σ H Q,⟨f,h,?Q⟩,?Z1 ?hY,?h7 a=?r,?bD/\?nP,Q ?gU H',(ns:?B),fun r s'=>r=w/\?WY r s',eq_of_beq,I.base.tups,ds[j]' ?hV,?X9 n,s.heap.IsSliceOf sl vl vu ?b2,(?l9).push (?uB),.set S n,k b u (hb b n) q,j<1073741824,PS X (?qE [?H5] e pos) (tL te ?w4),IrI C g x y H Q,fun z=>(hch _ z).2.1 rfl,fun h' st' sb=>?_,.of_refs hab main,?p WData,fun m hm=>hl m (qb9 _ hm),∀x∈P,?QV,fun i h h' st k=>st.at fun o e=>k it ?q o e,Str × NameKind,xO K R vs H1,X.s₀.heap.FunFrames,xs[f.toNat]?=?c q,Vu f y fs,GW x vs H Q,Builtin.Slice.sliceAdjust lo hi 1 ?aQ,LH r' tc σ Q y z H3,?XP b,hn.sameBut,(i+n).toNat,PG X tg g,Q (?j ?fV ?rM) ?hT->?OZ,∀b∈fp,?nZ,?P [x] us,XN K n neg x y H Q,?aE->?cU,es.toList.any,.(by rw[Ai (T8 c _ e)];exact e),⟨rfl,rfl⟩,hl i σ H hi pp,?bI b=?T->?i1=?T,?yG I hx' hy',fun v hv=>(qg9.mp nd).1 (qq0 hv).1,lI K xs H Q,Int->?RQ,?oX x=?c a,(sb.2 b hb).trans,?ZZ (?WD e ?cD),?bI p=?w0,x.2=NameKind.local->?jU x.1=?c NameKind.local,?bI p.1=?c p.2/\H p.1=none/\p.1≠X.env.locals/\p.1 ∉ X.fs/\∀v,p.2.data≠?q4 v,I7.pin ?q3 (qg2 _ (qg2 _ (Og hb e))),[op,op'],I.tuple_inj,PA X [a] ta,.(by simp at hj;omega),J.yld i H x H',.list_str z t' ?a8 O9m,?t rfl z,?D3 b=?r,?v4 (t':=s1.toks) hk,.int_list c t ?a8 O9m,fun _ _ z=>no z,E4 K x ?aM st f fd,c ∉ ?p8,PySem.W.plainOver K C=true,?a07 (! ?n (?c1 a=?c1 b)),h.ok ?aT,.(fun c o e hm=>by rw[(hf c hm).1]at e;cases e),?bS->?oV,?a07 (g==k),Heap->Prop,ItB Q x H1,Gw ?hY A,qa6 ?tO I.sz,Dq ?jL ?fC,?XK ?mX (tCB r t),ws[k]?=?jC,e0.hok.fresh,?VY H' s2,∀x∈sc.names,?uG,SqL X.K H a xs,?tQ (t':=s1.toks) (fun b u e=>?jJ) ?aC ?_,X.H₀ b=none,?GT=?qD b,fun _ s'=>SP X Ad D .next s',.(by have:=r.dp;omega),sJ R vs H1,?r3 ?AB [],?r8 x=?bF,XO K R x H1,I.stkSub,xP K n t v σ H Q,∀b∈fp,?IX,4*l.length,P σ' H',?fE ?g2 ?vC (?qX (?m fa) ⟨?dX,[]⟩) (fun r s'=>r=.ok (.ret ?lY)/\OldK ?pN ?eJ/\s'.os=s₁.os/\?n4) ?hA,Av8 g x y H Q,∀y∈sc.names,y.2≠?lH,u σ H1 Q,?dK ?c e,op≠.NotIn,n<=1000000,∃o,?rE,fun ys' τ' H' p'=>?HP,"type.__call__",mainGlobals,?Y3 p xs,?VQ (?t5) (?a0G ?vA Q),∀C s₀ H₀ fp,PTs (?XL C) ifs tc,∃t,u=Value.float b t,LG X ?g1 tb,Tf CX X E,Ry ?aP X.w H' ?eJ,?ZF ?fD,?hF σ H1,(?yQ).names.lookup x=?aR\/(?yQ).names.lookup x=?cI,.(by ext V3),hs i x ys τ _ ?rB p,(n,(?x7 n).getD 0)::acc,Paired.mapP,?o8 n==?aR,RX Q x H1,q _ I.fresh,Bo Y [] τ' H' s',H' p=?vW,us.length=ps.length,Mod X.K ?eT ?dD,?VQ (call ?lF (v::us)) ?bC,env.scope.kind==?h0,fitsIndex_both h1 h2,ds.length,?a0B SE,fun h' tk k=>⟨_,H,?lS k,?_,q⟩,?n (x=y),.(fun v q=>by ext V0),hs i x σ _ ?rB p,ItFld K f Q x H1,PySem.W.makesIn K C=true,cellsFrom,?a0B LL,{ cls:=?aZ,data:=?a2 its'.toArray n' },f ∉ ws,?Z2 [] l,.(by simpa using rv),?XK a ta,I.ok.frf,slot_list_getitem.lookup,(X.wish E).Ok,(?i2-1) / 8,XG i σ H Q,⟨_,UY,rfl,rfl,_,rfl⟩,Data.seq,(?a0E ?fV),∀σ' H',?KT->u D σ' H',[v,ov,iv],?XI ?Y,i<xs.length,fun(m:Nat)=>xs[?MP]?,Rep.same,⟨o,e,c⟩,?X9 kvs.length,RW Q x H',(?y2+(m:Int)*1).toNat,Vals.append,(show False from r).elim,h₁.get?,eqDs (Fe a) (Fe b),.(by rw[hC];exact ?o9),?lK/\?qZ,?XK o ta,?P ys its',fun o=>o.bind fun j=>?P7,∃t,LG (jH Ex P w K mg ?aU N ?aM ?rN f Dp A ?a3 s H E).nox (G6 st) t/\?O7,fun _ e=>?oW,Bo X Ad (σ.set i ?k2) H s',?o5 (?l2),.(by simp[eqDs]at h),Subscript_,xK x y H Q,IrU g x H Q,(?cS,?wU),A.handled=none,?a02 ?rL,fun x c e=>?_,qd7 this,r x xs H Q,lH fam ws,.(by simp at e),(?S5)/\∀p∈?u9,p.1≠b,t D σ H,q p _ (Same.new hp) (.of Ab),?XF 4,slicePart_none,?XK o to,compPost,I.base.slot,tn i s7.heap,xH tb σ Q x H1,X.A.handled=none,A.units+?dS<cLine,hA b (?xX),fun x a e=>?_,seqIndex?,⟨h1,?CY⟩,⟨u,r,?_⟩,a b _ (?ZT h) e,eqDs_len,gU K xs H Q,?WY u s',qb9 _ hb,.(by simp[putF]),jQ ?D x dx C mA,I.pins_of,sIx n n hi,fun m=>xs[i+m]?,?nQ s.gens,t { nx:=fun _ H'=>Q ?v H',rt:=Q } ?pL H,k a _ ?dP e,.bl (!c),?VZ M (storeName ?h x u),I.hok.laid,z.sameBut hs (cne y c e),PA X ?b1 ta,fun b o e hx=>?_,Dn X.K C f,⟨ok.mod,ok.kind,ok.glob,ok.blt,ok.above,ok.inj,ok.has,ok.cab,ok.hd,ok.frames,ok.stk,ok.exf,ok.bs,ok.bsz,ok.noex,ok.exfs,ok.funs,ok.frf⟩,?V K H' vs ds,I.base.tbls,?bI l=?w0,fun e=>?tL,?bA Expr,PySem.W.takerIn,A.depth+1,.tuple_list p ?yX O9m,?CL=?pI b,?zE/\o.data=?a2 its n/\?X9 its.size/\?P xs ?wQ,⟨main,?_⟩,.tuple_str z t' p O9m,?Z7 ?rN,HP X Ad σ Q s',hl i ys τ H hi p,base.Ns ?L4 mg,?X9 ns.length,Rl X Ad H' b,?ZH (f ?q8 (?j j u)),Wf ?aP X.w X.K tg J fp it tn,T.keep _ _ _ YE fun b hb o e=>(?JL).1,∀xs,?bD->?b0,?NT i ?bO,fun a e=>?_,RY C m sp dvs E t σ Q x H1,Oh ws fam 4 [w] [],(σ[j]?).join,putF f v r,.list_none ?a8 O9m,PySem.W.hasDictIn K C=true,fun _ s5 _z=>?_,bindArgs,sc.isCoroutine=false,(zs++[y]),SD K xs H Q,∃t,u=Value.int i t,A.units+1,hd σ H p,c.locals,(Q ?fV H),Bo X Ad σ' H' s',SA K x lo hi H Q,Heap.get?_update_other,Mut (H x),?P dvs ds,Ed K H a ?nA,Nat->?a5,scal x y=true,fun w=>w==f,((?cE:Nat):Int),K.In ?aU,tn 0 ?D,.(fun v z=>by rw[d]at z;cases z),(?bK).length,P[i]?=?cL,"list.index",pre_splitW hpre,PySem.W.cellsFrom_some,?n (?iM),fun c H1=>Q (!c) H1,its.toArray[m],σ[i]?=?xA,.list_int i t' ?a8 O9m,?kK B H H1,Bo X Ad σ H' { s with heap:=h',gens:=g',drawn:=d',toks:=t' },.(by simpa using I.len),I.unwish,?YP (T8 c _ q),Gw ?hY X.A,?YT g k,.(by subst z;rw[r]at mu;exact mu),.list_bool b ?a8 O9m,Nat->?DE,LI x vs H Q,Iw.mpr rfl,sD o i v H Q,?bT k xs,.(by decide),tn i ?eJ,?Z6 p,fun τ2 H2=>te τ2 H2 ?QZ,lJ K n x vs H Q,.(by rintro rfl;exact h v qc9),IsRangeIter,⟨xs.length-?aH,O9m,rfl,hlt,p'⟩,"__getitem__",?jU x=?dQ\/?wW,sc.isGenerator=false,.frz o u,X.prog=P,fun y H4=>?A1/\?t0/\Pv ?aH ?i4 τ2 (upd H4 D (?x ?i4)),cap.length=N'.length,?p Key × Addr × Value,?j i ?rM,wpAny_comprehension_free,∀C s₀ H₀ fp,PG (?XL C) tg g,(?dJ x t),Int->?cU,?WF ?z (?G [?H,x]),?P ys its,?XG a,.list_tuple ?a8 p' O9m,b=s1.heap.objs.size,⟨_,hen⟩,pl.isList.typeIs,Mk X.K C f,Pv 0 σ H,PG X ?nV ?w4,.(by simpa using q7),.int_tuple c t p O9m,fun σ' H' p'=>?HP,PT X c tc,(b∈X.ex\/?W3 b)/\?h6/\?NF,⟨?j ?fV,H,?gA,?fR,q⟩,rX Q x H1,(?cS,?gW),I.ok.inj,Int->Int,∀C s₀ H₀ fp,PE (?XL C) elt te,∀b∈fp,?OY,(?aT b u e).stay,?p2 f=?I,Ed K H' a xs,PA X ?cY t,fs.length<=1000,.Pass ⟨0,0,0,0⟩,.ins C ?z [],.str_list c t ?a8 O9m,((?O4:Nat):Int),⟨xs,xs[i],q,by simp[hlt]⟩,SqL X.K H a ys,∃sl,?i1=?c { o with slots:=sl },?ZB b,sIx n 0 lo,?p Key × V,∃c,?x7 n=?bF,?t (show ?a07 false from hs) qd8,{ s with heap:=?fK ?uC,toks:=tk },?ZF f,RZ tb σ Q x H1,hk c o n1 n3 n4 n5 e,.(fun _ _ _ z=>by ext UN),TI K H' v ns,?aA->?zU,Qu ws w fam,.bool_tuple c p O9m,hd ys τ H p,jJ cap σ,?YP (T8 c' _ q),∀(hs:?YH ?v6),a,.(by refine ?GG;obtain⟨x,H1,I1,rx,a,dx,fs,ex,ea,l,q⟩:=_z;subst ex;obtain rfl:?jV:=rx;refine S8 I1 ea c hm l ?_),∀(hg:?R4) (ht:?L7) (he:?RR),a,∀(hs:?YH ?QP),a,.(by have I1:?zW:=?WU (fun b o hb e=>?JG e);obtain⟨o,e,c,d⟩:=id st'),.(by obtain⟨j,h1,h2,h3,h4,h5⟩:=lE he;obtain⟨w,ew,rw'⟩:=?iL h2;have hl:=r.length;have hn:=cU;have fin:?WY w s:=⟨z,H,I,rw',q⟩),.(by have I3:?pK:=I2.call' hos hun hok hbare (Bo.fpCh f2);have f3:Rl X Ad H' C:=I2.fpOk hC hHC;obtain⟨_,k1,_,k3,k4,k5⟩:=f3),∀(hs:∀i x σ H,?b0->?dE->g x σ H ?qY) (hd:?GW),a,.(by first | rfl | simp[Around.under,Code.weight,Code.isCreation,Code.isGuard,Code.isCaller,Code.frames,Code.isFrame,guardIds]),.(by intro value slice Ad s σ H x y v u Q I rx ry h hs;obtain⟨p,xs,i,z,rfl,rfl,hq,he,q⟩:=h;cases rx;obtain⟨t,rfl⟩:=ry),∀(pa:PlainAttrs T)(slot:Slot T ?Y id)(hty:typeOf ?lF=?U (?aD "method_descriptor"))(hm:MtR X id r)(ho:?NK)(ha:?RW),a,.(by refine Dq (?VW hb _) fun u s2 _z=>?_;obtain⟨y,H2,I2,r2,q2⟩:=_z;exact hf v u s2 x y H2 I2 r1 r2 q2),∀(hs:?eG ?b1 ?h=[?HF,?N7]:=by rfl)(hs2:?eG [b] ?h=[?N7]:=by rfl),a,.(by rw[e]at e';cases e';rw[d]at d';injection d' with d1 _;have:its=its':=by simpa using ?dK Array.toList d1),∀(mu:?PO)(he:?FF)(k:∀b u,?lK->?z6)(heo:?FU),a,.(by have hc:(i=0/\j=1)\/(i=0/\j=2)\/(i=0/\j=3)\/(i=1/\j=2)\/(i=1/\j=3)\/(i=2/\j=3):=?JP),∀{x qual:Str}{st:Stmt}{f:Addr}{fd:FuncData}{N ps:?L}{k:Nat}{sp:Sp}(F:?JX)(S:?zQ N ps ?rN),a,∀(hf:∀v u s2 x y H2,?VY H2 s2->?dW->?jF->?GJ->?e ?k X.A ?vA Q ?l s2),a,.(by rcases hc with⟨rfl,rfl⟩|⟨rfl,rfl⟩|⟨rfl,rfl⟩|⟨rfl,rfl⟩|⟨rfl,rfl⟩|⟨rfl,rfl⟩),.(by simp only[sliceBounds,HT.sIx,Option.getD_none,show ?fY > 0 by decide,if_true];by_cases h:i<0),.(by obtain⟨σ3,H3,I3,n3⟩:=q3;obtain⟨m',hm,w3⟩:=hN σ3 H3 n3;exact⟨m',hm,σ3,H3,I3,w3⟩),.(by obtain⟨xs,x,hq,hx⟩:=hg;obtain⟨its,rv,p,hz⟩:=?dR;obtain⟨u,hu,ru⟩:=?lD hx),.(by cases rx;cases ry;obtain⟨its,r1,p1,_⟩:=?bP ha;obtain⟨its2,r2,p2,_⟩:=?bP hb),.(by obtain⟨o,e,d⟩:=T.obj _ _ YE b hb;exact(?JL).2.1),.(by rw[ql1 (?jR hj)]at e2;obtain⟨u',r',q⟩:=hl j y v' e1 e2 e3;refine⟨u',r',?_⟩),.(by obtain⟨o',es',SS,ho',r'⟩:=hm;rw[ho]at ho';cases ho';exact⟨_,es',SS,hL,r'⟩),.(by have e2:?YT op CmpOp.NotIn:=?XS h2),.(by obtain⟨x,H5,I5,r5,y5,YE,ZV⟩:=_z;have I5':=I5.pinned (HJ ZV) (T.obj _ _ YE)),.(by have e1:?YT op CmpOp.In:=?XS h),.(by obtain⟨i,j,rfl,q⟩:=h;obtain⟨u,w',rfl,⟨t,rfl⟩,⟨t',rfl⟩⟩:=X8 r),.(by refine⟨fun i m σ H=>m=n-i/\i<=n/\?dE,?wA,?_⟩),.(by subst e;obtain⟨o,e,c,d⟩:=st;exact⟨o,e,?PX⟩),.(by refine⟨⟨o,e,ex.1⟩,fun a e2=>?_⟩;cases e2;exact⟨o,e,ex.2.1⟩),.(by simp only[qc0,qf0,or_false,not_or]at hc;obtain⟨n1,n2,n3,n4,n5⟩:=hc),.(by intro Ad s σ H R I h;refine Dq (?VX hl h) ?fC),∀(h:∀{N:?M},(∀σ' H',?KT->?rP)->t { D with nx:=N } σ H),a,.(by obtain⟨ia,ra,pa,_⟩:=?aY Xm;obtain⟨ib,rb,pb,_⟩:=?aY mT),∀{to:TE}{t:TA}{name:Str}{apos cpos:Pos}{T id:String}{r:?lO},a,.(by obtain⟨_,_,_,_,o,_,_,e,ex,_⟩:=?H7;exact⟨o,e,ex⟩),.(by obtain⟨p,ys,rfl,hq,q⟩:=h;obtain⟨u,rfl,rx⟩:=X9 r;cases rx),∀(X:?kU)(I:?O2)(hg:?wZ K C ?Y=true),a,.(by have hu':?tM:=by simp only[dep]at hu;omega),∀(hs:?pC e (?c (?H5)) ?oC ?h=?qT:=by rfl),a,∀(hbase:?tJ o ?Y ?h (?l0)=?l0:=by rfl),a,∀(hs:?IB)(pl:?F7)(pu:?CI),a,.(by obtain⟨xs,hq,hx⟩:=hg;obtain⟨its,rv,p,hz⟩:=?dR),.(by obtain⟨oc,od,kV,doc,pm,an,Dp,ct,osl,rfl,lk,hcd⟩:=F.ex),.(by refine ?NU;rcases ?mV with z | z | z),.(by have hfresh:?uL:=?lL),.(by obtain⟨d,rfl,q⟩:=q1;cases r1;exact qk0 ⟨H1,I1,q⟩),.(by subst hj;rw[hi]at e1;cases e1;rw[qo6 hiσ]at e2;cases e2),.(by have hf:H1 ?fS=none:=?lV ?aC),.(by obtain⟨it,fp,tn,J,H2,e,I2,T,st2,f2,hW⟩:=h2;subst e),.(by subst e;exact ?X7 ?pT ?SJ),∀(h7:p7) (h8:p8) (h9:p9) (h10:WH) (h11:p11) (h12:p12) (h13:p13),a,∀(hcap:?FS)(hi:?CX),a,∀(hi:?hS:=by rfl)(hx:?v0:=by ac_rfl),a,.(by cases y<;>exact ?S9),.(by have e2:its'.toArray.size=es.length:=?bV),.(by rcases Df hv with⟨j,u,rfl,rfl⟩|⟨y,u,rfl,rfl⟩),.(by have e1:its.toArray.size=ds.length:=?bV),.(by subst e;exact ?X7 ?pT ?PI),.(by exact⟨f.2.2.2.1,f.2.1,f.2.2.2.2.1,f.2.2.2.2.2⟩),.(by have hx':=hx;obtain⟨a,vs,rfl,q,r⟩:=hx;cases rx),.(by obtain⟨a,e,⟨xs,hq⟩,q⟩:=q1;subst e;cases r1),∀(hl:∀i ys τ H,?gZ->?dI->?dH),a,∀{pl:?vN}(he:?MW)(c:?uS)(hm:rV X.K C m f),a,∀{ta:TA}{p pos:Pos}(hg:Gl X ?kJ)(hm:?eT ?kJ=none),a,.(by simp only[qc0,qf0,or_false,or_self]at hf;subst hf),∀{x:Str}{ps:?L}{j k:Nat}{sp:Sp}{p pos:Pos}{e:Expr},a,.(by rcases Df hb with⟨j,u,rfl,e⟩|⟨y,u,rfl,e⟩),.(by unfold Ax;rw[?hL,?uK]),∀(hs:?eG [a] ?h=[?HF]:=by rfl),a,.(by obtain⟨p,ys,a,b,c⟩:=z;exact⟨p,ys,a,b,c⟩),∀(hg:?q9)(hm:?yY)(hv:?rH=?T),a,.(by exact qb9 _ (ih (fun y hy=>hn y (qb9 _ hy)) h)),.(by obtain⟨σ7,H7,I7,n7⟩:=q7;exact again I7 n7),.(by refine ?K9),.(by simp only[eqD];by_cases hl:ds.length=es.length),∀(hl:∀i σ H,?gZ->?dE->?bD),a,∀{g':?i0 GenState}{t':Nat}{d':Drawn}{ch:?aS},a,∀{h:Heap}{a:Addr}{items:?c3}(x:Mu h a ?hB),a,.(by have e:?RB:=?eX),∀(len:?AE),a,∀{l:?pB}{acc:?gB},a,∀{pl:?vN}{Q:Value × ?w->?eH},a,.(by cases (show ?ME _ _=Data.cell v from q)),.(by obtain⟨hz,hTI,⟨u0,v0,hTO⟩,h1,h2⟩:=st),.(by obtain⟨m,⟨o,es,ep,ho,r⟩,_⟩:=id ?lR),.(by rw[Ai (?ZT h)];exact e),∀(h:ta σ H fun x H1=>tb σ H1 fun y H2=>?GJ),a,∀(hcd:(x==("__classdict__":Str))=false:=by decide),a,∀(k:∀b u,?JA),a,.(by have hk':k=NameKind.free:=?xV),∀(hp:PassesOwn ?k X.A ?h ?l),a,∀(hline:?a07 (apos.endLine==cpos.line):=by rfl),a,∀(hn:(?tZ).length=n:=by rfl),a,∀(r:?kS),a,∀{qual:Str}{scope:Scope}{f:Addr}{cd:Value},a,∀(σ':St) (H':Hp) (i:?PL),a,∀(hb:?KR),a,∀(hd:?ZM n),a,∀(hd:∀σ H,Pv n σ H->?dA),a,∀{cells:?gB}{x:Str},a,∀{tg elt iter:Expr}{ifs:?g9},a,∀(hh:?PA),a,∀{X:Cx}{a b c:Expr}{ta tb tc:TE},a,∀{vl vu:Value}{lo hi:?c2},a,∀(hn:n=min ?bO ?oU),a,∀{X:Cx}{CX:sO}{k:Nat}{f C:Addr},a,∀(hm:?oH),a,∀{x qual:Str}{st:Stmt}{f:Addr},a,@(?e ?k X.A ?a ?b ?l s),@((?a).go i H/\∃N:?M,?iE/\∀x H',(?b).yld i H x H'->?h2),@(fun σ H Q=>?a σ H fun x H1=>?b),@([?fN,?fX,"dict_itemiterator","dict_reverseitemiterator","odict_iterator","itertools.zip_longest","itertools.pairwise"].contains ?a),@(jH CX P w K mg ?aU N ?aM ?dB f ?a A ?a3 s H E),@(Dq (hi Ad s σ H _ I ?a) fun v s1 h1=>Dq h1 fun itv s2 h2=>?_),@(?a Ad s1 σ H1 ?b I1 q1),@(?a Ad s σ H _ I ?b),@(Bo X Ad σ ?a ?b),@(?e ?a A ?b Q E s),@(qq9 (h₀:=X.base) ?yB ?a (Dq (ha pos Ad s σ H _ I h) fun us s1 ⟨vs,H1,I1,r,q⟩=>⟨I1.kIn,?_⟩) he hpl),@(Te ?a g ?b te D Q τ H),@(?a (Dq (ha pos Ad s σ H _ I h) fun us s1 ⟨vs,H1,I1,r1,q1⟩=>hc Ad s1 σ H1 vs us Q I1 r1 q1) he hpl),@(X.s₀.heap.objs.size<=?a),@(?a (Dq (h pos Ad s σ H _ I hq) fun us s1 ⟨xs,H1,I1,r,z,q⟩=>⟨by rw[←r.length];exact z,?_⟩)),@(?a fun _ _ _ _ _ _ _ q=>?b q),@(∀p,?aV->Q ?aO (upd H p ?a)),@((sc.names.map fun ?fT=>if (k==?lH&&UG.kind==?h0&&?jO n==?aR) then ?xN else ?fT).lookup p.1=?a),@(?a->?b->Prop),@(qa5 (m:=Builtin.Tuple.tupleExact _) (ql9 (?a ?b) KQ)),@(sp (?m x::?g5) (upd (upd ?a dx (.own x)) x (.ins C dx [])) (fun v H2=>v=?v/\Q ?i3 H2) E),@(fun σ H R=>ta σ H fun vs H1=>?a),@(OpR X ?a (WE fun i j=>.bl ?b)),@(?bJ (?d0 ?a m apos) ?b [] pos),@(Aa9 ha hb I h fun v u s2 x y H2 I2 rx ry q=>ho Ad s2 σ H2 x y v ?a Q I2 rx ry q),@(upd H ?a ?b),@(fun x y H Q=>?a),@(OS I (A:=A.in1) (by show ?tM;omega) r r' rv WC (eqDs_ok I ds) fun d h=>X4 ?a),@(X.env.scope.names.lookup x=?a),@(?n ((e::es).length+([]:?k5).length+(if ([]:?k5).isEmpty then 0 else ?a)<30)),@(qo0 ?a ?b4 ?b k ?iD fin),@(Q (.bl ?a) H),@((items.toList.drop (?cE)).take (?fL-?a)),@(show ?a b=_ from h'),@(?gV (t':=s.toks) (o:=?a ?b) (?nJ) ?aC ?_),@(∀{binds:?hK}[?mF],(∀v,(x,v) ∉ binds)->?a ?cH binds m x=m x),@(fun _ _ _ H _ I h=>?a ?b),@(?bJ (?eM ?a p) ?b [] pos),@(?CE p ?a ho hc hd (fun h' c' kp e=>fin its r' hz h' c' kp e) ?jI),@(?zG (fun x1 x2=>x1++x2) #[] (?bT ?a ?J)=(?bT ?b its).flatten.toArray),@(?mT (t':=s.toks) ?a f0 f1 f3 f4 f5),@(?h7 f=?c ⟨oc,od,.func ?a,osl⟩),@(?eI ?a ?bE "__setattr__"=?c (?c (?a6 "object.__setattr__"))),@(PE X (?p4 ?a j pos) (tC ?b)),@(EP X Ad σ Q ?a ?b),@(?t (qb3 ?a ?b) ?g3),@(?pE pos f first (?fQ pos ?a) ?pF),@(?a ?kV ?b (iZ I (A:=X.A.in1) (by ext B6) hx rx r rv) (fin r rv)),@(⟨u,rfl,GA (s:=?kM) e c d ?bH ⟨x,H,I1,ru,?a,st',?nG⟩⟩),@(Hj ?rI (fun z=>by simp at z) ?a),@(?a Pv h0 hl (fun i x ys τ H e p=>hs i x ys τ H e p) hd),@(show ?a from r),@(fun b o _ _ hc e _=>?a),@(?i ⟨?a,?b⟩),@((?a).stop i H/\?dA),@(?a<=sizeLine),@(Fu X (?a6 ?a) ?b),@(OpR X ?a ?b),@(?e _ _ ?a _ _ s),@(?c { cls:=?b2,data:=?h3 ?a }),@(?a (Cr I q (?dK not ?b))),@(s1.heap.objs.size+?a),@(s.heap.objs.size<=?a),@(fun _ _ _ _ _ st h=>?a st h),@(?eI K ?bE ?a),@(by subst hK;exact ?a ?b),@(PE X ?a ?b),@(F4 X sc N' ?a s₀ H₀ fp),@(Classical.propDecidable ?a),@(fun Ad s σ H Q I hw=>?a (h Ad s σ H Q I hw)),@((ws.map tI).findIdx? (fun e=>eqD e (tI f))=?a (?b)),@(?a<s.heap.objs.size),@(fun y H4=>?A1/\?t0/\N ?i4 ?a (upd H4 D (?x ?i4))),@((?a (?eE)).take (?jS-?eE)),@(by cases op<;>first | rfl | exact ?t rfl ?a),@(?g ⟨?a,?eF,?b,?iJ⟩),@(by rw[I.ok.glob];exact I.mod.glob.keeps ?a),@(?a { cls:=?cR,data:=?a2 ?b }),@(⟨?fS,?EK,_,_,H1,rfl,?E6,?a a _,?zC,?cF,q⟩),@(fun b ps q=>⟨#[],by rw[Ai ?a,q];simp⟩),@(NP X Ad ?a s'),@(?a c o (I.cne x c e) hc cQ ho (?cW x c e)),@(qd1 (qb3 ?a ?b)),@(fun σ H Q=>t σ H fun xs H1=>?a Q xs H1),@(Un fs ex H ?a h ?b),@(SqL K H ?a ?b),@(?b7 ?a=?c (?aD ?b)),@(fun _ H Q=>Q ?a H),@(?a==NameKind.free),@(?a b o e n hb ?b),@(∀i ys τ H,i<n->?dI->g (?l6) τ H ?a),@(xs.length+?a<=sizeLine),@(fun xs H Q=>?a),@((?a).length<=acc.length+?b),@(?a (i:=i) (qg9.mp nd).2 (?oB) (?wD) hk),@(⟨?m ?fS,upd H1 ?fS ?a,?KG,rfl,q _ hf⟩),@(∀[?cB][?S] (n:Nat),?b3->?P (?a n) (?b n)),@(ho Ad s2 σ H2 x y v u ?a I2 r1 r2 q2),@(PI X tg l (?a ?b tl)),@(∀i x ys τ H,?b0->?dI->g x τ H ?a),@(qa5 (?a (qa5 ?b))),@(Wf P w K tg ?a [it] it ?b),@(Rep K H ?a ?b),@(PW X (?bU .And ?a pos) ?b),@(H ?a=none),@(?pU ?z=?c { cls:=?cR,data:=?a2 #[?a,?b] }),@(⟨_,?a,?b⟩),@(by rw[Ai ?a];exact q),@(PW X (?bU .Or ?a pos) ?b),@(A.under (?a6 ?L3 ⟨?qU::?a,kw⟩)),@(?V K H ?a ?b),@((?a==?b)=false),@(⟨(hs.2 p.1 ?a).trans e,n,ne,nf,d⟩),@(((∃xs,SqL K H1 a xs))->(R ?a H1)->?b),@(show s.heap.IsTuple ?a ?J from p),@(fun σ H R=>tl σ H fun x H1=>?a),@(fun x lo hi H Q=>?a),@(by show(?a:Nat)<=sizeLine;decide),@(PG X (?o4 es k pos) (As4 ?a n t)),@(Bw P w K mg ?aU Ex ?a f fd ps sp),@(?l3 ws fam ?a ?b),@(?c { cls:=?aZ,data:=?a2 #[] ?a }),@(?a=s.heap.objs.size),@(fun acc C=>?NL ?k X.A ?l ?a ?b acc C),@(TI K H v ?a),@(Gw k (?o5 (?xT ?aM ?a ?z f Dp))),@(?b7 ?a=?c (?a6 ?b)),@((∀p H',?bX->Ed K H' p ?a->?kP)->?b),@(⟨?a,H1,I1,rfl,q1⟩),@(∀x c,?dT->c≠?a),@(qt4 (Mg ?a hg hm hv ?_ hn hdb)),@(Un (?jW) ?a H H' ?D ?b),@(RcAt A s ?bG ?pX (eqD (?a) (?b es))),@(Ax ?a fam),@(?w9 (fun x=>?n ?a)),@(?e ?k X.A ?a Q E s),@((DE h H).get? b=?a),@((AI cells l acc).lookup ?a=?bF),@((?r3 (?A4 ?a 0).toNat []).getD ?b 0),@(?a=xs.length),@(∀ys τ H,Pv ?a ys τ H->Q H),@(∀p,?FZ->Q ?aO (upd H1 p ?a)),@(∀[?cB][?S] (i:Nat),?b3->?P ?a ?b),@(by subst hK;exact(?a).imp ?SE),@(show y=?a from hy),@(show x=?a from hx),@(PT X (?n5 a [op] [b] pos) (?a ?b)),@(Fh e ?a (by intro z;cases z)),@(?a ?cH ?n1 m ?b=_),@(St->?W8 Hp (?a)),@(∀[?N] (D:Ends),?A->?NG->?VQ (?a st ?h) (SP X Ad D)),@(W.fnOf ?Y ?aM params ?g1 ?dB dV kV doc pm an Dp ?a),@(?A->?g8->?VQ ?a (?b X Ad σ Q)),@(?aN ?a ?h),@(fun xs H Q=>∃i j,xs=?w2/\Q (?j ?a) H),@(PE X (?WD o ?a) (JW C m sp dvs E ta ?b)),@(fun ys hy=>by rw[?a hy hq];exact hx),@(fun b u q n _=>by rw[Ai ?a];exact n),@(?aV->g ?aO ?a (?WF p (?G [?H,x])) ?b),@(?bJ (?d0 ?a ?Y apos) ?cY [] cpos),@(fun b o _ hb _ e n=>?Y7 ?a ?q),@(?a=true),@(⟨?eL,_,?WO ?a (?i6),rfl,?tB⟩),@(∀l,?p1->Q (?nW) (?WF l ?a)),@(fun u s₂=>?e ?k X.A ?a ?b ?l s₂),@(?a K x y H Q),@(by rw[hk];exact(?YO I' ?a)),@(∀p ys,?rD->((?y8\/?xB))->?a->?b),@(fun i j=>?j ?a),@(?c (?e7 (?i7) ?a)),@(fun v s₁=>?e ?k X.A (?wU) (?a0A ?a ?b) ?l ?hA),@(?U (AI ?rQ ?a ?b))])
theorem O9m{p:Prop}(h:p:=by omega):p:=h
def qa0:=@List.getElem?_eq_getElem
def qa1:=@Nat.le_refl
def qa2:=@List.getElem?_eq_some_iff
def qa3:=@List.getD_eq_getElem?_getD
def qa4:=@List.length_map
def qa5:=@PySem.wpAny_bind
def qa6:=@Nat.le_trans
def qa7:=@PySem.Heap.get?_push_of_some
def qa8:=@Nat.zero_le
def qa9:=@List.getElem?_map
def qb0:=@List.mem_of_getElem?
def qb1:=@Int.natAbs_mul
def qb2:=@PySem.Heap.lt_size
def qb3:=@Nat.lt_of_lt_of_le
def qb4:=@List.map_append
def qb5:=@PySem.PassesOwn.never
def qb6:=@Nat.mul_le_mul_right
def qb7:=@PySem.wpAny_pure
def qb8:=@Nat.lt_of_le_of_lt
def qb9:=@List.mem_cons_of_mem
def qc0:=@List.mem_cons
def qc1:=@PySem.Heap.get?_push_size
def qc2:=@List.size_toArray
def qc3:=@List.length_append
def qc4:=@Bool.and_eq_true
def qc5:=@List.map_cons
def qc6:=@List.getElem?_append_left
def qc7:=@Int.natAbs_neg
def qc8:=@List.length_take
def qc9:=@List.mem_cons_self
def qd0:=@List.take_length
def qd1:=@Nat.ne_of_lt
def qd2:=@of_decide_eq_true
def qd3:=@List.getElem?_append_right
def qd4:=@List.length_cons
def qd5:=@Int.one_mul
def qd6:=@List.mem_map
def qd7:=@Option.some.inj
def qd8:=@Bool.false_ne_true
def qd9:=@Int.mul_zero
def qe0:=@List.getElem_mem
def qe1:=@Nat.pow_add
def qe2:=@Nat.le_of_lt
def qe3:=@Int.toNat_natCast
def qe4:=@PySem.F.plainAttrs_list
def qe5:=@List.all_eq_true
def qe6:=@List.mem_range
def qe7:=@List.take_succ
def qe8:=@Nat.mul_le_mul_left
def qe9:=@Nat.pow_le_pow_right
def qf0:=@List.not_mem_nil
def qf1:=@Int.add_zero
def qf2:=@Int.mul_assoc
def qf3:=@Int.mul_comm
def qf4:=@Nat.le_add_right
def qf5:=@Nat.mul_le_mul
def qf6:=@Int.natAbs_add_le
def qf7:=@Nat.one_mul
def qf8:=@Nat.add_mul
def qf9:=@decide_eq_true
def qg0:=@List.getElem?_of_mem
def qg1:=@Int.fdiv_eq_ediv_of_nonneg
def qg2:=@List.mem_append_right
def qg3:=@Int.zero_mul
def qg4:=@List.getElem_of_mem
def qg5:=@Decidable.byContradiction
def qg6:=@Nat.pow_lt_pow_right
def qg7:=@Nat.le_of_not_lt
def qg8:=@PyProof.Rows.callWith_type1
def qg9:=@List.nodup_cons
def qh0:=@Nat.pow_succ
def qh1:=@Nat.lt_or_ge
def qh2:=@List.mem_filter
def qh3:=@PySem.wpAny_field
def qh4:=@PySem.boot_len
def qh5:=@Int.natAbs_ediv_le_natAbs
def qh6:=@PySem.F.type_list_append
def qh7:=@PySem.F.slot_list_append
def qh8:=@Int.mul_ediv_cancel_left
def qh9:=@List.getElem?_eq_none
def qi0:=@Nat.le_mul_of_pos_right
def qi1:=@List.take_of_length_le
def qi2:=@List.length_set
def qi3:=@PySem.wpAny_setField_rec
def qi4:=@Nat.sub_self
def qi5:=@PySem.Heap.size_push
def qi6:=@Nat.le_antisymm
def qi7:=@Nat.succ_le_succ
def qi8:=@Nat.lt_of_not_le
def qi9:=@List.map_map
def qj0:=@List.length_drop
def qj1:=@List.length_eraseIdx_of_lt
def qj2:=@Option.map_eq_some_iff
def qj3:=@List.replicate_succ
def qj4:=@List.mem_map_of_mem
def qj5:=@PySem.W.mg_none_of
def qj6:=@decide_eq_false
def qj7:=@List.range_succ
def qj8:=@List.length_filter_le
def qj9:=@Int.mul_le_mul_of_nonneg_right
def qk0:=@PySem.wpAny_truthy_bool
def qk1:=@List.mem_singleton
def qk2:=@Int.mul_nonneg
def qk3:=@beq_eq_false_iff_ne
def qk4:=@PySem.wpAny_mono
def qk5:=@Nat.one_le_two_pow
def qk6:=@Nat.ne_of_gt
def qk7:=@List.length_replicate
def qk8:=@List.getElem?_take
def qk9:=@Int.add_assoc
def ql0:=@PySem.wpAny_call_entry
def ql1:=@List.getElem?_set_ne
def ql2:=@Nat.lt_trichotomy
def ql3:=@List.mem_append
def ql4:=@List.flatten_cons
def ql5:=@Nat.le_of_eq
def ql6:=@Int.zero_add
def ql7:=@List.sum_cons
def ql8:=@List.any_cons
def ql9:=@PySem.wpAny_newObj_type
def qm0:=@List.filter_cons
def qm1:=@Int.mul_le_mul_of_nonneg_left
def qm2:=@Nat.le_mul_of_pos_left
def qm3:=@List.length_nil
def qm4:=@Int.mul_one
def qm5:=@Bool.eq_iff_iff
def qm6:=@PySem.wpAny_seqItems
def qm7:=@decide_eq_true_eq
def qm8:=@Int.le_of_dvd
def qm9:=@PySem.wpAny_pyIter_tuple
def qn0:=@List.mem_append_left
def qn1:=@PySem.wpAny_passesOwn
def qn2:=@List.mem_or_eq_of_mem_set
def qn3:=@Nat.mul_lt_mul''
def qn4:=@PySem.wpAny_holding
def qn5:=@PySem.mem_of_lookup
def qn6:=@Nat.le_succ
def qn7:=@Int.neg_neg
def qn8:=@Int.neg_mul
def qn9:=@PySem.F.slot_tuple_iterator_next
def qo0:=@PySem.W.kia_one
def qo1:=@Nat.lt_irrefl
def qo2:=@List.nil_append
def qo3:=@List.map_take
def qo4:=@List.find?_cons
def qo5:=@List.filter_append
def qo6:=@List.getElem?_set_self
def qo7:=@List.take_add_one
def qo8:=@List.length_range
def qo9:=@List.getElem?_set
def qp0:=@PySem.W.methodCall_KW
def qp1:=@List.length_singleton
def qp2:=@PySem.Calls.spliced_cons
def qp3:=@List.take_append_of_le_length
def qp4:=@List.lookup_cons
def qp5:=@List.any_eq_true
def qp6:=@List.mem_of_mem_take
def qp7:=@PySem.Calls.callWith_builtin
def qp8:=@List.map_drop
def qp9:=@Nat.lt_two_pow_self
def qq0:=@List.of_mem_zip
def qq1:=@List.map_congr_left
def qq2:=@List.foldl_cons
def qq3:=@List.filter_sublist
def qq4:=@Int.mul_eq_zero
def qq5:=@PySem.F.slot_enumerate_next
def qq6:=@Bool.or_eq_true
def qq7:=@Nat.mul_lt_mul_of_pos_left
def qq8:=@Nat.le_of_mul_le_mul_right
def qq9:=@PySem.W.callWith_K
def qr0:=@List.map_nil
def qr1:=@Int.emod_lt_of_pos
def qr2:=@Bool.false_eq_true
def qr3:=@Nat.le_of_mul_le_mul_left
def qr4:=@List.pairwise_iff_getElem
def qr5:=@List.nodup_nil
def qr6:=@PySem.F.type_list_insert
def qr7:=@PySem.F.slot_list_insert
def qr8:=@PySem.F.args_tuple_add_2
def qr9:=@List.pairwise_map
def qs0:=@List.nodup_append
def qs1:=@List.foldl_append
def qs2:=@List.ext_getElem?
def qs3:=@Int.not_lt
def qs4:=@Int.dvd_mul_of_dvd_right
def qs5:=@PySem.F.plainAttrs_dict
def qs6:=@PySem.F.entry_tuple_add
def qs7:=@Nat.add_assoc
def qs8:=@List.getElem?_replicate
def qs9:=@List.getElem?_cons_zero
def qt0:=@List.filter_cons_of_pos
def qt1:=@List.filter_cons_of_neg
def qt2:=@Int.eq_ofNat_of_zero_le
def qt3:=@Int.add_mul
def qt4:=@PySem.wpAny_Call_Name_kw
def qt5:=@Nat.succ_ne_self
def qt6:=@List.Sublist.map
def qt7:=@PySem.F.slot_tuple_add
def qt8:=@Int.fmod_nonneg_of_pos
def qt9:=@PySem.wpAny_pyIter_list
def qu0:=@PySem.wpAny_pyIter_enum
def qu1:=@PySem.wpAny_dictEntries
def qu2:=@PySem.F.slot_dict_pop
def qu3:=@PySem.F.slot_dict_get
def qu4:=@Nat.zero_add
def qu5:=@Nat.lt_trans
def qu6:=@Nat.le_of_ble_eq_true
def qu7:=@Int.natAbs_dvd_natAbs
def qu8:=@Int.le_trans
def qu9:=@PySem.W.mg_of
def qv0:=@List.replicate_succ'
def qv1:=@PySem.wpAny_pyIter_zip
def qv2:=@PySem.W.plainGet_of
def qv3:=@PySem.F.slot_dict_itemiterator_iter
def qv4:=@Nat.add_le_add_left
def qv5:=@List.filterMap_cons
def qv6:=@Array.length_toList
def qv7:=@PySem.wpAny_execs_nil
def qv8:=@List.getElem?_drop
def qv9:=@List.findIdx?_cons
def qw0:=@Int.fmod_lt_of_pos
def qw1:=@Int.dvd_trans
def qw2:=@PySem.F.slot_zip_next
def qw3:=@PySem.wpAny_rule
def qw4:=@beq_iff_eq
def qw5:=@PyProof.Rows.slot_tuple_getitem
def qw6:=@List.append_assoc
def qw7:=@List.any_eq_false
def qw8:=@PySem.Calls.evalArgs_plain
def qw9:=@Nat.sub_zero
def qx0:=@Nat.pow_zero
def qx1:=@Nat.min_self
def qx2:=@Nat.add_comm
def qx3:=@Int.add_comm
open PySem in
noncomputable abbrev Aq:=?p (?B)
open PySem in
noncomputable abbrev Bn:=?p (?D9)
open PySem in
noncomputable abbrev R7:=?i0 (?lI)
open PySem in
noncomputable abbrev OAddr:=?bA Addr
namespace L2
open PySem PySem.Spec PyProof.Rows
noncomputable abbrev Key:=Sum Int Str
def BE:Key->?aA->?cU
 | ?i k,v=>Value.isInt k v
 | ?hC,v=>Value.isStrOf x v
def A98(w:World):Key->Int
 | ?i k=>hashInt k
 | ?hC=>hashStr w x
theorem Df:∀{k:Key}[?gQ],BE k v=true->(∃i t,k=?pI i/\v=Value.int i t)\/(∃x t,k=?qD x/\v=Value.str x t)
 | ?p6,v,h=>by
   obtain⟨t,e⟩:=Value.isInt_shape (k:=i) (v:=v) h;exact ?i ⟨i,t,rfl,e⟩
 | ?hC,v,h=>by
   obtain⟨t,e⟩:=Value.isStrOf_shape (x:=x) (v:=v) h;exact ?g ⟨x,t,rfl,e⟩
theorem MP(i:Int)(t:Tok):BE (?p6) ?q8=true:=by simp[BE,Value.isInt]
theorem mP(x:Str)(t:Tok):BE (?hC) ?R5=true:=by simp[BE,Value.isStrOf]
theorem ZF(a b:Int):?n (?OP)=(a==b):=by
 by_cases e:a=b
 . subst e;simp
 . have h:¬?OP:=fun q=>e (Sum.inl.inj q);rw[qj6 h];exact(qk3.mpr e).symm
theorem zE(a b:Str):?n (?KI)=?wX:=by
 by_cases e:a=b
 . subst e;simp
 . have h:¬?KI:=fun q=>e (Sum.inr.inj q);rw[qj6 h,qj6 e]
theorem zF(a:Int)(b:Str):?n (?CL=?qD b)=false:=qj6 (fun q=>nomatch q)
theorem ZE(a:Str)(b:Int):?n (?GT=?pI b)=false:=qj6 (fun q=>nomatch q)
def mixKind[?BR]:PySem.KeyKind prog w Key where
 is:=BE
 hash:=A98 w
 inj:=fun v a b ha hb=>by
  rcases Df ha with⟨i,t,rfl,rfl⟩|⟨x,t,rfl,rfl⟩
  . ext UK
    . injection e with e1 _;rw[e1]
    . exact ?oW
  . ext UK
    . exact ?oW
    . injection e with e1 _;rw[e1]
 byValue:=fun k v h=>by
  rcases Df h with⟨i,t,rfl,rfl⟩|⟨x,t,rfl,rfl⟩<;>rfl
 pyHash:=fun hv h=>by
  rcases Df hv with⟨i,t,rfl,rfl⟩|⟨x,t,rfl,rfl⟩
  . exact wpAny_pyHash_int h
  . exact wpAny_pyHash_str h
 eqBool:=fun hu hv h=>by
  rcases Df hu with⟨i,t,rfl,rfl⟩|⟨x,t,rfl,rfl⟩
  . ext U9
    . rw[ZF]at h;exact wpAny_eqBool_int h
    . rw[zF]at h;exact SeqAt.EqAt.int_str i t y u _ _ _ _ h
  . ext U9
    . rw[ZE]at h;exact SeqAt.EqAt.str_int x t j u _ _ _ _ h
    . rw[zE]at h;exact wpAny_eqBool_str h
 «strs»:=fun k x t v h=>by
  rcases Df h with⟨i,u,rfl,e⟩|⟨y,u,rfl,e⟩
  . exact ?oW
  . injection e with e1 _;subst e1;cases v<;>rfl
theorem fT[?BR](i:Int)(t:Tok):?EQ (?p6) ?q8=true:=MP i t
theorem fS[?BR](x:Str)(t:Tok):?EQ (?hC) ?R5=true:=mP x t
inductive V where
 | non | bl (b:Bool) | int (i:Int) | str (x:Str) | byt (b:?DB) | flt (b:UInt64) | ref [?cC] | ty (n:String)
 deriving DecidableEq
noncomputable abbrev rS[?cC]:?lJ:=?c ?bG
noncomputable abbrev iS(i:Int):?lJ:=?c (?H)
def RelV:?W8 V ?aA
 | ?v,u=>?zD
 | ?bQ,u=>u=?hP b
 | ?H,u=>?PG
 | ?e8,u=>?EW
 | .byt b,u=>?DJ
 | .flt b,u=>?L8
 | ?aB,u=>?jV
 | .ty n,u=>u=Value.type n
noncomputable abbrev Vals:?W8 ?o ?w:=?lB ?bR
theorem Vals.length[?cB][?S](r:?b3):xs.length=us.length:=Paired.length r
theorem Vals.get:∀[?cB][?S]{i:Nat}{x:V},?b3->?b0->∃u,us[i]?=?T/\?eP
 | _,_,_,_,?u,e=>?NE
 | _,_,0,_,?E r _,e=>by simp at e;subst e;exact ?HJ
 | _,_,i+1,x,?qC,e=>by
   obtain⟨u,h1,h2⟩:=Vals.get (i:=i) (x:=x) t (?wT);exact⟨u,?oB,h2⟩
theorem Vals.set{x:V}[?aL](r:?eP):?ZO (xs.set i x) (us.set i u)
 | _,_,_,?u=>?u
 | _,_,0,?qC=>?hR
 | _,_,i+1,?E q t=>?E q (Vals.set r i t)
theorem Vals.append:∀[?gL]{us ws:?w},?b3->?P ys ws->?P (xs++ys) (us++ws)
 | _,_,_,_,?u,s=>s
 | _,_,_,_,?hR,s=>?E r (?MQ t s)
theorem Vals.take:?YE xs.take us.take
 | _,_,0,_=>?u
 | _,_,_+1,?u=>?u
 | _,_,n+1,?hR=>?E r (Vals.take n t)
theorem Vals.drop:?YE ?t8 us.drop
 | _,_,0,r=>r
 | _,_,_+1,?u=>?u
 | _,_,n+1,?qC=>Vals.drop n t
def Nq:?W8 ?lJ ?lI
 | ?I,?T=>?cZ
 | none,none=>True
 | _,_=>False
def KV{κ:Type}:?p (κ × V)->?p (?DT)->Prop:=?lB fun(p:κ × V) (q:?DT)=>p.1=q.1/\?bR p.2 q.2
def kV:Key->V
 | ?p6=>?H
 | ?hC=>?e8
inductive HO where
 | lst [?a4]
 | tup [?a4]
 | dK (kvs:?p (Key × V)) | dT (kvs:?p (?S7))
 | set (S:?R6) (n:Nat)
 | ins (C dx:Addr) (fs:?dU)
 | own (x:Addr)
 | xd (fs:?dU)
 | met (f x:Addr)
 | rng (lo hi:Int)
 | frz (o:Obj) (u:HO)
 | tbl (ps:?c3)
 | ext (φ:?K5)
noncomputable abbrev Hp:=Addr->?w7
def upd(H:Hp)[?cC](o:HO):Hp:=fun b=>if b=a then ?r else H b
theorem Ab{H:Hp}[?bN]{o:HO}:upd H a o a=?r:=by unfold upd;rw[?C rfl]
theorem Ai{H:Hp}{a b:Addr}{o:HO}(h:b≠a):upd H a o b=H b:=by unfold upd;rw[?s h]
theorem Fh{H:Hp}{a b:Addr}{o u:HO}(h:?mW)(h':?vS)(d:o≠u):a≠b:=by
 intro e;subst e;rw[h]at h';exact d (qd7 h')
theorem Ao{H:Hp}{a b:Addr}{o:HO}(h:?mW)(h':?X):a≠b:=by
 intro e;subst e;rw[h]at h';cases h'
def Mu[?d8][?cC](items:?c3):Prop:=∃o,?rE/\?tY/\?zE/\∃n,o.data=?a2 ?hB n
theorem Mu.tup[?UV]:?kZ h a ?hB:=let ⟨o,e,c,_,d⟩:=x;⟨o,e,c,d⟩
theorem Mu.lt[?UV]:?uW:=x.tup.lt
theorem Mu.new[?d8](items:?c3):Mu (?XV h.push ?hB) ?CM ?hB:=?FE
section
variable[?f6]
def ObjOk(H:Hp)[?d8][?cC]:HO->Prop
 | ?x xs=>?eA/\∃(its:?w) (n:Nat),?i9/\?c0=?w0
 | ?G xs=>?eA/\∃its:?w,?i9/\Mu h a ?J
 | .dK kvs=>?MN/\?FI/\∃vs,KV kvs vs/\h.DictOf (mixKind P w) a vs
 | .dT kvs=>?MN/\?FI/\∃xs:?p (?R1),
    ?lB (fun(p:?S7) (q:?R1)=>p.1=q.1/\H q.2.1=?c (?G (p.1.map kV))/\?bR p.2 q.2.2) kvs xs ∧
    ∃o es ep,?rE/\o.ExactDict/\?HU/\es.toList=?w3 (entryOfKey (tupleKind (mixKind P w)))/\(?w3 (·.1)).Nodup
 | ?ID=>h.SetOf (intKind P w) a S n
 | ?y4=>?DK/\?RX/\dx≠a/\?c0=?c (?p5 C dx) ∧
    ∃mA,?xE/\(?wH)/\?y7 mA (?o2 (·.1))
 | .own _=>?L1
 | .xd fs=>∃mA,h.Ns1 a mA/\?wH
 | .rng lo hi=>∃t u v,?c0=?c ?uC
 | ?QX=>?rE/\?c6 H h a u
 | .tbl ps=>?c0=?XD ps
 | .met f x=>?c0=?c (?vL ?c4 ?i3)
 | .ext φ=>φ h/\(?L1)/\∀h1 h2:Heap,φ h1->(∀o,?qV a=?r->h2.get? a=?r)->φ h2
def Ry(H:Hp)[?d8]:Prop:=∀a o,?mW->?vK
universe e9
section
variable[?sK][?e3]{h h':Heap}[?bN]{o:HO}
theorem ObjOk.lt(x:?vK):?uW:=by
 cases o with
 | lst xs=>obtain⟨_,_,_,_,e⟩:=x;ext b6
 | tup xs=>obtain⟨_,_,_,p⟩:=x;exact p.lt
 | dK kvs=>obtain⟨_,_,_,_,o,_,_,e,_⟩:=x;ext b6
 | dT kvs=>obtain⟨_,_,_,_,o,_,_,e,_⟩:=x;ext b6
 | set S n=>obtain⟨o,_,_,_,e,_⟩:=x;ext b6
 | ins C dx fs=>obtain⟨_,_,_,e,_⟩:=x;ext b6
 | own y=>obtain⟨_,e⟩:=x;ext b6
 | xd fs=>obtain⟨_,⟨_,_,_,e,_⟩,_⟩:=x;ext b6
 | rng lo hi=>obtain⟨_,_,_,e⟩:=x;ext b6
 | frz ob u=>obtain⟨e,_⟩:=x;ext b6
 | tbl ps=>exact qb2 (show ?c0=?c _ from x)
 | met f y=>exact qb2 (show ?c0=?c _ from x)
 | ext φ=>obtain⟨_,⟨_,e⟩,_⟩:=x;ext b6
theorem Paired.mapP{α β:Type}{F G:?W8 α β}:∀{l₁:?hN}{l₂:?p β},?lB F l₁ l₂->(∀a b,F a b->G a b)->?lB G l₁ l₂
 | _,_,?u,_=>?u
 | _,_,?hR,f=>?E (f _ _ r) (?LI t f)
theorem ObjOk.stay(x:?vK)(k:∀b u,(b=a\/H b=?p7)->?z6)
 (ho:∀b,H b=?p7->?iG=?p7) (ht:?rF):?c6 P w H' h' a o:=by
 induction o with
 | lst xs=>obtain⟨z,its,n,r,e⟩:=x;exact⟨z,its,n,r,?c5⟩
 | tup xs=>obtain⟨z,its,r,ob,e,c⟩:=x;exact⟨z,its,r,ob,?c5,c⟩
 | dK kvs=>obtain⟨z,y,vs,r,ob,es,ep,e,c⟩:=x;exact⟨z,y,vs,r,ob,es,ep,?c5,c⟩
 | dT kvs =>
   obtain⟨z,y,xs,r,ob,es,ep,e,c⟩:=x;exact⟨z,y,xs,?LI r fun p q z=>⟨z.1,ht _ _ z.2.1,z.2.2⟩,ob,es,ep,?c5,c⟩
 | set S n=>obtain⟨ob,es,ep,t,e,c⟩:=x;exact⟨ob,es,ep,t,?c5,c⟩
 | ins C dx fs =>
   obtain⟨d,z,ne,e,mA,⟨od,es,ep,e2,c⟩,r⟩:=x;exact⟨ho _ d,z,ne,?c5,mA,⟨od,es,ep,k _ _ (?g d) e2,c⟩,r⟩
 | own y=>obtain⟨ob,e⟩:=x;exact⟨ob,?c5⟩
 | xd fs=>obtain⟨mA,⟨od,es,ep,e,c⟩,r⟩:=x;exact⟨mA,⟨od,es,ep,?c5,c⟩,r⟩
 | rng lo hi=>obtain⟨t,u,v,e⟩:=x;exact⟨t,u,v,?c5⟩
 | frz ob u ih=>obtain⟨e,q⟩:=x;exact⟨?c5,ih q⟩
 | tbl ps =>
   have e:?c0=?XD ps:=x;show ?h1 a=?XD ps;exact ?O8
 | met f y =>
   have e:?c0=?c (?vL ?c4 (?m y)):=x;show ?h1 a=?c (?vL ?c4 (?m y));exact ?O8
 | ext φ=>obtain⟨p,⟨o,e⟩,st⟩:=x;exact⟨st _ _ p fun o q=>k _ _ ?dP q,⟨o,?c5⟩,st⟩
theorem Ry.lt[?mK](e:?mW):?uW:=(x a o e).lt
theorem Ry.fresh[?mK](e:?tT):?w1:=by
 cases q:H a with
 | none=>rfl
 | some u=>exact ?WZ (x.lt q) e
theorem Ry.kept[?mK][?rW]:Ry P w H h':=fun a o e =>
 (x a o e).stay (fun b u _ q=>?n8) (fun _ q=>q) ?kH
theorem Ry.laid[?mK][?rW](hp:?tT)(new:?c6 P w ?lQ h' a o):Ry P w ?lQ h':=fun b u e=>by
 have hn:=x.fresh hp;by_cases hb:b=a
 . subst hb;rw[Ab]at e;cases e;exact new
 . rw[Ai hb]at e;exact(x b u e).stay (fun c v _ q=>k c v q) (fun c q=>?mZ) fun c xs q=>?mZ
universe e9
def Rd(H:Hp)[?cC](u:HO):Prop:=H a=?T\/∃o,H a=?zK
theorem Rd.ok[?sK]{H:Hp}[?d9][?bN]{u:HO}(r:Rd H a u)[?mK]:?c6 P w H h a u:=by
 rcases r with r|⟨o,r⟩
 . exact x a u r
 . obtain⟨_,q⟩:=x a _ r;exact q
def Mut:?w7->Prop
 | ?c (?oT)=>True
 | ?c (.dK _)=>True
 | ?c (.dT _)=>True
 | ?c (.set _ _)=>True
 | ?c (.ins _ _ _)=>True
 | ?c (.ext _)=>True
 | _=>False
section
variable[?sK]{H:Hp}{h h':Heap}{x e:Addr}{o':HO}
theorem Ry.write(ok:?u5)[?T0]
 (new:?c6 P w (?WF x o') h' x o'):Ry P w (?WF x o') h':=fun b u q=>by
 have An0:∀c y,H c=?c (.own y)->c≠x:=fun c y r z=>?QF
 have A74:∀c xs,H c=?r0->c≠x:=fun c xs r z=>?QF
 by_cases hb:b=x
 . subst hb;rw[Ab]at q;cases q;exact new
 . rw[Ai hb]at q;by_cases zP:b=e
   . have q':H b=?c (.own x):=by
      rcases he with z | z
      . exact ?t (zP.trans z) hb
      . rw[zP];exact z
     rw[q]at q';cases q';obtain⟨v,hv⟩:=heo;exact⟨v,by rw[zP];exact hv⟩
   . refine(ok b u q).stay (fun c v hc r=>k c v ?_ r) (fun c r=>by rw[Ai (An0 c b r)];exact r) fun c xs r=>by rw[Ai (A74 c xs r)];exact r
     rcases hc with rfl | hc
     . exact zP
     . rintro rfl;rcases he with z | z
       . exact An0 c b hc z
       . rw[hc]at z;cases z;exact hb rfl
universe e9
structure Un(fs ex:?aS)(H H':Hp)(h h':Heap):Prop where
 keep:∀b o,?dO->?X->b ∉ fs->?kE->?oV
 slot:∀b o,?dO->?X->b∈fs->?kE->?S4
 free:∀b o,?dO->?X->?kE->?nZ
 there:∀b o,?dO->?kE->?HW
 tups:?rF
 frzs:?vQ
 tbls:?F4
section
variable{fs fs' ex ex':?aS}{H H1 H2:Hp}{h h1 h2 h':Heap}{a x e:Addr}{o:HO}
theorem Un.any(u:?Y2 H1 h1){b:Addr}{ob:Obj}(q:?pS=?c ob)(n:?X)(hx:?kE):∃sl,?qV b=?c { ob with slots:=sl }:=by
 by_cases hb:b∈fs
 . exact u.slot b ob q n hb hx
 . exact⟨?GF,?yV b ob q n hb hx⟩
theorem Un.kept[?rW]:?Y2 H h' :=
 ⟨fun b ob q _ _ _=>?zP,fun b ob q _ _ _=>⟨?GF,?zP⟩,fun _ _ _ n _=>n,fun b ob q _=>⟨ob,?zP⟩,?kH,fun _ _ _ q=>q,fun _ ps q=>⟨#[],?xX⟩⟩
theorem Un.refl:?Y2 H h:=?u2 ?kH
theorem Un.laid[?rW](hp:?tT)(hn:?w1):?Y2 ?lQ h' where
 keep:=fun b u q _ _ _=>?n8
 slot:=fun b u q _ _ _=>⟨u.slots,?n8⟩
 free:=?a03 (?Y0 (qb2 q) hp)
 there:=fun b u q _=>⟨u,?n8⟩
 tups:=fun b xs q=>?mZ
 frzs:=fun b u xs q=>?mZ
 tbls:=?XX (Ao q hn)
theorem Un.write[?T0]:Un fs ex H (?WF x o) h h':=by
 have hx:∀b,?X->b≠x:=fun b n z=>by subst z;rw[n]at mu;exact mu
 have hb:∀b,?X->?lK:=fun b n z=>by
  subst z;rcases he with r | r
  . exact hx b n r
  . rw[n]at r;cases r
 have hm:∀b u,?vS->¬Mut (?T)->b≠x:=fun b u q nm z=>by subst z;rw[q]at mu;exact nm mu
 refine⟨fun b u q n _ _=>?IE,fun b u q n _ _=>⟨u.slots,?IE⟩,?a03 (hx b n),fun b u q _=>?_,
  fun b xs q=>?C2,fun b u xs q=>?C2,?XX (hm b _ q fun z=>z)⟩
 by_cases zP:b=e
 . subst zP;exact heo
 . exact⟨u,k b u zP q⟩
universe e9
def trk[?d8](H:Hp):?aS:=(?eK ?CM).filter fun a=>(H a).isSome
def DE[?d8](H:Hp):Heap:=PySem.W.hideAll h (trk h H)
theorem mV[?d8](H:Hp):(DE h H).objs.size=h.objs.size:=PySem.W.hideAll_size _ _
theorem QS[?d9]{H:Hp}[?j3](e:?dO)(n:?X):?ZI ?r :=
 PySem.W.hideAll_get _ e fun hm=>by
  have q:(H b).isSome=true:=(qh2.mp hm).2;rw[n]at q;simp at q
theorem uL[?d9]{H:Hp}[?j3](e:?ZI ?r):?dO/\?X:=by
 have e':h.get? b=some o:=PySem.W.of_hideAll (trk h H) e;refine⟨e',?_⟩;cases q:H b with
 | none=>rfl
 | some x =>
   have hm:b∈trk h H:=qh2.mpr ⟨qe6.mpr (qb2 e'),by simp[q]⟩;have z:?ZI none:=PySem.W.hideAll_none (trk h H) hm;rw[z]at e;cases e
structure Mod[?d][?m6]:Prop where
 kin:?PV
 glob:?OW
 blt:∃mb,base.Ns ?EH mb/\?HR
 nolimit:base.NoLimit
structure Cx where
 prog:Program
 w:World
 K:PySem.W.Frag
 mg:?eC
 base:Heap
 A:Around
 N:?L
 s₀:Shared
 H₀:Hp
 env:Env
 outer:?cQ
 stack:?cQ
 ex:?aS
 fn:Str->?cU
 calm:Bool
 pn:Bn
 xe:?fW
def OD(l:?cQ):?aS:=l.filterMap (·.frame)
noncomputable abbrev Cx.fs(X:Cx):?aS:=OD ?nS
def Vis(sc:Scope)(x:Str):Prop:=?jU x=?dQ\/?wW\/?jU x=?cI
def Loc(sc:Scope)(x:Str):Prop:=?QV
def Bn8(env:Env)[?d8](m:?eC)(x:Str)[?e2]:Prop :=
 (?o8 x=?dQ/\m x=?T)\/((?o8 x=?aR\/?o8 x=?cI)/\∃c,?x7 x=?bF/\h.IsCell c (?T))
structure Cx.Ok(X:Cx):Prop where
 mod:?LP
 kind:X.env.scope.kind=?h0
 glob:X.env.globals=mainGlobals
 blt:X.env.builtins=builtinsNs
 above:?W3 X.env.locals
 inj:∀x y c,?dT->?oX y=?bF->x=y
 has:∀x,(?E3)->∃c,?dT
 cab:∀x c,?y9->?dT->?W3 c
 hd:?pY->?NP
 frames:X.A.frames=?c ?g0
 stk:X.stack=X.outer\/(X.stack=X.env::X.outer/\X.env.frame=?c ?oD)
 exf:∀b∈X.ex,?h6/\?S5
 bs:∀b o,?lU->?z5/\?KH
 bsz:X.base.objs.size<=X.s₀.heap.objs.size
 noex:∀b o,?lU->?F2
 exfs:∀b∈X.ex,?rR
 funs:?IR ?dD ?nS
 frf:∀b∈X.fs,?KH
structure Bo[?c9](σ:?x6)(H:Hp)[?d7]:Prop where
 ok:X.Ok
 os:s.os=X.s₀.os
 bare:?O6
 base:Un X.fs X.ex X.H₀ H X.s₀.heap ?D
 loc:∃m,?G7/\∀(i:Nat) (x:Str) (v:V),?hS->?Q6->?nB->∃u,?cZ/\Bn8 ?h ?D m x u
 cell:∀x c,?dT->∃v,?pO c v
 free:?YM ?oD
 freeC:∀x c,?dT->?YM c
 pin:∀p∈?u9,?JK
 hok:Ry ?aP X.w H ?D
 len:σ.length=X.N.length
section
variable{X:Cx}{Ad:Bn}{σ:?x6}[?e3][?aX]{h':Heap}
theorem Cx.Ok.nofr(ok:X.Ok)[?j3](e:?lU):?rR:=fun hb=>by
 have:=(ok.funs.mem hb).1;rw[e]at this;cases this
theorem Bo.bs[?f]:∀b o,?lU->?DZ:=fun b o e =>
 ⟨?oR b o (?oO).1 (?oO).2 (I.ok.nofr e) (?v2 b o e),?hI b o (?oO).1 (?oO).2 (?v2 b o e)⟩
theorem Bo.bk[?f]:∀b o,?lU->?bS:=fun b o e=>(I.bs b o e).1
theorem Bo.mod[?f]:?LP:=I.ok.mod
theorem Bo.kIn[?f]:X.K.In ?D:=I.ok.mod.kin.keeps I.bk
theorem Bo.lt[?f]:?XP X.env.locals:=let (?YO hn _):=I.loc;hn.lt
theorem Bo.sz[?f]:?W3 s.heap.objs.size:=qa6 ?rA (qe2 I.lt)
theorem Bo.nofs[?f][?bN](h:?R9):a ∉ X.fs:=fun hb=>by
 obtain⟨_,o,ho,_⟩:=I.ok.funs.mem hb;exact ?WZ (qb2 ho) (qa6 I.sz h)
theorem Bo.cne[?f]:?ZB X.env.locals:=fun x c e z=>by
 obtain⟨v,o,ho,hd⟩:=?nK;obtain⟨m,⟨o',es,ep,ho',hd',_⟩,_⟩:=I.loc;rw[z,ho']at ho;cases ho;rw[hd']at hd;cases hd
theorem Bo.funs[?f]:?oQ ?dD ?nS:=by
 have all:∀(l:?cQ),(∀b∈OD l,?FJ)->?IR ?dD l->?oQ ?dD l:=by
  intro l
  induction l with
  | nil=>intro _ _;trivial
  | cons env r ih =>
    intro hs hl;obtain⟨hk,⟨L,o,hf,hn,ho,hd⟩,hr⟩:=hl;have hL:L∈X.fs:=hs L (by unfold OD;rw[qv5,hf];exact qc9);obtain⟨sl,e⟩:=?NM L o ho (?M8 L hL) hL fun z=>?FY L z hL;exact⟨hk,⟨L,_,hf,hn,e,hd⟩,ih (fun b hb=>hs b (by unfold OD;rw[qv5,hf];exact ?O0)) hr⟩
 exact all ?nS (fun _ hb=>hb) I.ok.funs
theorem Bo.stack[?f]:?oQ ?dD ?g0:=by
 rcases I.ok.stk with e|⟨e,hf⟩
 . rw[e];exact I.funs
 . rw[e];obtain⟨m,hn,_⟩:=I.loc;refine ?E (by rw[I.ok.kind];decide) hf hn ?_ I.funs;exact Heap.get?_none_of_le (qa6 ?tO ?rA)
theorem Bo.stkSub[?f]:∀b∈?jW,b∈X.env.locals::X.fs:=fun b hb=>by
 rcases I.ok.stk with e|⟨e,hf⟩
 . rw[e]at hb;exact ?O0
 . rw[e]at hb;unfold OD at hb;rw[qv5,hf]at hb;exact hb
theorem Bo.stkFree[?f]:∀b∈?jW,?X:=fun b hb=>by
 rcases ?fI (?KP b hb) with e | hb
 . rw[e];exact I.free
 . obtain⟨_,o,ho,_⟩:=I.ok.funs.mem hb;exact ?hI b o ho (?M8 b hb) fun z=>?FY b z hb
theorem Bo.step[?UU][?f]
 [?AI]
 (keep:∀b o,?h6->?rR->?kD->?bS->?X->?oV)
 (slot:∀b o,?h6->?FJ->?kD->?bS->?X->?S4) (free:∀b o,?kD->?bS->?X->?nZ)
 (there:∀b o,?kD->?bS->?HW)
 (tups:?rF) (frzs:?vQ) (tbls:?F4)
 (ns:∀m,?G7->h'.Ns ?oD m) [?BO] (hg:?nQ g') :
 ?Q9:=by
 have neL:∀b o,?z5->?h6:=fun b o e=>?Y0 ?eR ?rA
 have neC:∀b o,?z5->?F2->?kD:=fun b o e hx hb=>by
  rcases (hch b hb).1 with z | z
  . exact hx z
  . exact ?WZ ?eR z
 have cellK:∀x c,?dT->∀v,?pO c v->h'.IsCell c v:=fun x c e v ?tE=>by
  have cQ:c ∉ ch:=?CA;by_cases hc:c∈X.fs
  . obtain⟨sl,q⟩:=?XZ slot;exact(?YO q hd)
  . exact⟨o,?XZ keep,hd⟩
 refine⟨I.ok,?hJ,hg,⟨?o1,?o1,fun b o e n hx=>?_,?OE,fun b xs e=>tups b xs (?I8 b xs e),fun b o xs e=>frzs b o xs (?G6 b o xs e),fun b ps e=>?_⟩,?_,?NA,?_,?NA,?z3,hok,?r1⟩
 . exact keep b o (neL b o e) hb ?p9 (?Y7 ?oR hx) (?hI b o e n hx)
 . ext AZ;obtain⟨sl',e2⟩:=slot b _ (neL b o e) hb ?p9 e1 (?hI b o e n hx);exact⟨sl',e2⟩
 . ext rU;exact free b o' ?p9 e1 (?hI b o e n hx)
 . ext rU;exact there b o' ?p9 e1
 . obtain⟨m1,e1⟩:=?OI b ps e;obtain⟨m2,e2⟩:=tbls b _ e1;exact⟨m1++m2,by rw[e2,Array.append_assoc]⟩
 . obtain⟨m,hn,hl⟩:=I.loc;refine⟨m,ns m hn,?HM⟩;obtain⟨u,r,l⟩:=hl i x v e1 e2 e3;refine ?NV;rcases l with l|⟨k,c,e,z⟩
   . exact ?i l
   . exact ?g ⟨k,c,e,cellK x c e _ z⟩
 . obtain⟨v,z⟩:=?nK;exact⟨v,cellK x c e v z⟩
 . obtain⟨m,⟨o,_,_,ho,_⟩,_⟩:=I.loc;exact free _ o (?II) ho ?dL
 . obtain⟨v,o,ho,hd⟩:=?nK;exact free c o (?CA) ho (?cW x c e)
 . ext B9;have cQ:p.1 ∉ ch:=fun z=>(hch p.1 z).2.2.2 p hp rfl;exact⟨keep p.1 p.2 ne nf cQ e n,free p.1 p.2 cQ e n,ne,nf,d⟩
theorem Bo.un{t':Nat}[?f](u:Un X.fs [] H H' ?D h')[?BO]:?VY H' ?qQ:=by
 ext V2;obtain⟨sl,hL⟩:=u.any ho ?dL ?q
 exact ?nC (g':=s.gens) (d':=s.drawn) (ch:=[]) (fun _ z=>?qI) (?a06 ?yV) (?a06 u.slot) (fun b o _ e n=>u.free b o e n ?q) (fun b o _ e=>u.there b o e ?q) u.tups u.frzs u.tbls (fun m' hm=>by
  ext TB) hok ?bB
theorem Bo.call[?UU][?f](u:?ZD ch h')[?BO](hg:?nQ g')
 [?AI] :
 ?Q9:=by
 ext V2;obtain⟨sl,hL⟩:=u.any ho ?dL ?II
 exact ?nC (ch:=ch) hch (fun b o hL hb hc e n=>?yV b o e n (fun z=>(?tC).elim hL hb) hc) (fun b o _ _ hc e n=>u.any e n hc) (fun b o hc e n=>u.free b o e n hc) (fun b o hc e=>u.there b o e hc) u.tups u.frzs u.tbls (fun m' hm=>by
  ext TB) hok hg
theorem Bo.turned{t':Nat}{it:Addr}[?f](k:∀b o,?qZ->?K3)(hn:?YM it)(hL:it≠X.env.locals)
 (h1:it∈X.ex\/?W3 it) (h2:?ZB it) (h3:∀p∈?u9,p.1≠it):?zY:=by
 have nit:∀b u,?vS->?qZ:=fun b u e z=>by rw[z,hn]at e;cases e
 refine ?nC (g':=s.gens) (d':=s.drawn) (ch:=[it]) (?cF) (?X6 ?wS) (?X6 ⟨?nX,?wS⟩) (fun _ _ _ _ n=>n)
  (fun b o hc e=>⟨o,?wS⟩) (fun _ _ e=>e) (fun _ _ _ e=>e) (fun b ps e=>⟨#[],by rw[e];simp⟩) ?pQ (fun b u e=>?_) ?bB
 . ext s4
   subst e;exact⟨h1,hL,h2,h3⟩
 . obtain⟨o,es,ep,ho,r⟩:=hm;exact⟨o,es,ep,k _ o (?jR hL) ho,r⟩
 . refine ?RT (fun c v hc q=>k c v ?_ q) (fun _ q=>q) ?kH;rcases hc with z | z
   . rw[z];exact nit b u e
   . exact nit c _ z
theorem Bo.tok[?f](t:Nat):Bo X Ad σ H { s with toks:=t }:=I.un (h':=s.heap) (t':=t) Un.refl ?aT
theorem Bo.kept{t':Nat}[?f][?V6]:?zY:=I.un (?u2 k) (I.hok.kept k)
theorem Bo.laid[?bN]{o:HO}{t':Nat}[?f][?V6](hp:?R9)(new:?c6 ?aP X.w ?lQ h' a o) :
 ?VY ?lQ ?qQ:=I.un (Un.laid k hp (?nE hp)) (?OB k hp new)
theorem Bo.write{x e:Addr}{o:HO}{t':Nat}[?f](mu:?PO)(he:?FF)(k:∀b u,?lK->?JA)(heo:?FU)
 (new:?c6 ?aP X.w (?WF x o) h' x o):?VY (upd H x o) ?qQ:=I.un (Un.write mu he k heo) (I.hok.write mu he k heo new)
theorem Bo.pins_of{wH:Bn}[?f](h:∀p∈wH,?JK):Bo X wH σ H s :=
 ⟨I.ok,?hJ,?bB,?u4,?lR,?eS,?dL,?cW,fun p hp=>?G2 (fun z=>?gY p (qn0 _ z)) (h p),?aT,?r1⟩
theorem FO{N:?L}(hN:N.Nodup){i j:Nat}{x:Str}(a:N[i]?=?cL)(b:N[j]?=?cL):i=j:=by
 obtain⟨h1,e1⟩:=?eD a;obtain⟨h2,e2⟩:=?eD b;exact(List.getElem_inj hN).mp (e1.trans e2.symm)
theorem aQ{M:Model}[?F][?a9][?f9]{v:V}[?aL][?mD][?f][?rT][?fA]
 (h:∀s',?N1->(∃a,?jH a ?D ?eJ/\(a=X.env.locals\/?JF))->?A8) [?gC]:?OA:=by
 obtain⟨m,hn,hl⟩:=id ?lR;have hcls:(X.env.scope.kind==.class || (X.env.scope.kind==.module&&X.env.locals != X.env.globals))=false:=by rw[I.ok.kind];rfl
 have hiσ:i<σ.length:=by rw[I.len];exact ?j7
 have cne:=I.cne
 have tracked:∀[?bN]{h':Heap},(∃o,?bI a=?r/\?w1)->?jH a ?D h'->Ry ?aP X.w H h':=fun {a h'} ha hs b ob e=>by
  obtain⟨_,_,hfree⟩:=ha;refine(?aT b ob e).stay (fun c w' hc q=>(hs.2 c ?_).trans q) (fun _ q=>q) ?kH;rintro rfl;rcases hc with rfl | hc
  . rw[hfree]at e;cases e
  . rw[hfree]at hc;cases hc
 rcases hx with hk | hk
 . refine wpAny_storeName_local hk hn (fun h' hn' hs=>?_) hcls;obtain⟨oL,_,_,hoL,_⟩:=id hn;refine h _ ⟨I.ok,?hJ,?bB,?GB,(?YO hn' ?E1),fun y c e=>?_,?dL,?cW,?z3,tracked ⟨oL,hoL,?dL⟩ hs,?QA⟩ (?YO hs ?h8)
   . exact ?zN (?Y7 ?oR hx)
   . ext AZ;exact⟨sl,?zN e1⟩
   . ext rU;exact⟨o',?zN e1⟩
   . by_cases hj:j=i
     . ext U0;exact⟨u,r,?X7 hk ?Q⟩
     . ext TA;rcases q with⟨k,e⟩|⟨k,c,e,z⟩
       . refine ?X7 k ?_;have:y≠x:=fun e=>hj (FO hN e1 (e▸hi));simp[this,e]
       . exact ?g ⟨k,c,e,?OC⟩
   . obtain⟨w',z⟩:=?eS y c e;exact⟨w',?OC⟩
   . ext B9;exact(?YU ne)
 . have hfn:?y9:=by
    rcases hf with z | z
    . exact z
    . rw[z]at hk;cases hk
   obtain⟨c,hc⟩:=I.ok.has x (?i hk);obtain⟨w',z⟩:=?eS x c hc;refine wpAny_storeName_cell ?i8 hk hc z (fun h' hc' hs=>?_);obtain⟨oc,hoc,Bc5⟩:=id z;refine h ?kM ⟨I.ok,?hJ,?bB,?GB,⟨m,?IY hs (?jR (cne x c hc)),?E1⟩,fun y c' e=>?_,?dL,?cW,?z3,tracked ⟨oc,hoc,?cW x c hc⟩ hs,?QA⟩ ⟨c,hs,?g hc⟩
   . exact ?vF (?Y7 ?oR hx)
   . ext AZ;exact⟨sl,?vF e1⟩
   . ext rU;exact⟨o',?vF e1⟩
   . by_cases hj:j=i
     . ext U0;exact⟨u,r,?g ⟨?i hk,c,hc,hc'⟩⟩
     . ext TA;rcases q with q|⟨k,c',e,z'⟩
       . exact ?i q
       . refine ?g ⟨k,c',e,z'.sameBut hs ?_⟩;rintro rfl;exact hj (FO hN e1 (?RP _ _ _ e hc▸hi))
   . by_cases hcc:c'=c
     . subst hcc;exact⟨_,hc'⟩
     . obtain⟨w2,z2⟩:=?eS y c' e;exact⟨w2,z2.sameBut hs hcc⟩
   . ext B9;refine(?YU ?_);intro q;rw[q,hoc]at e;have q':oc=p.2:=qd7 e;exact d w' (by rw[←q'];exact Bc5)
theorem EN{M:Model}[?F][?a9][?f9]{v:V}[?aL][?mD][?f][?rT][?fA]
 (h:∀s',?N1->?A8) [?gC]:?OA :=
 aQ I hN hi hx r (fun s' I' _=>h s' I') hf
theorem Bo.call'{s':Shared}{ch:?aS}[?f](ho:?t7)(u:?ZD ch ?eJ)(hok:?LB)(hg:?n4)
 [?AI]:?pK:=by
 obtain⟨h',g',d',t',o'⟩:=s';have e:o'=s.os:=ho;subst e;exact I.call (g':=g') (t':=t') (d':=d') u hok hg hch
universe e9
noncomputable abbrev XK:=?aA->OAddr->?a5
noncomputable abbrev St:=?x6
noncomputable abbrev VK:=?l1
noncomputable abbrev TE:=St->?rC
noncomputable abbrev TT:=?ZV ?ED
noncomputable abbrev TA:=?ZV ?wI
structure Ends where
 nx:?M
 rt:VK
 bk:?M:=?fO
 ct:?M:=?fO
noncomputable abbrev TS:=Ends->?M
inductive EP[?c9](σ:St)(Q:VK)[?e2][?d6]:Prop
 | mk (v:V) [?s9] [?fA] (q:?lG):?NZ
inductive TP[?c9](σ:St)[?j0](b:Bool)[?d6]:Prop
 | mk [?s9] (q:Q b H'):TP X Ad σ Q b s'
inductive AP[?c9](σ:St)(Q:?wI)[?d5][?d6]:Prop
 | mk [?e1] [?s9] [?sW] (q:Q vs H'):AP X Ad σ Q us s'
inductive NP[?c9](N:?M)[?d6]:Prop
 | mk [?VD] (q:?rP):?XY N
inductive HP[?c9](σ:St)(Q:?a5)[?d6]:Prop
 | mk [?s9] (q:Q H'):?OU
inductive YP[?c9](σ:St)[?e2](Y:?l1)(T:Prop)[?sT](s2:Shared):Prop
 | mk (x:V) (H':Hp) (i:?KD) (r:?eP) (y:Y x H') (t:T) (f:?J2):YP X Ad σ u Y T fp s2
inductive RP[?c9](Q:VK)[?e2][?d6]:Prop
 | mk (v:V) [?VD] [?fA] (q:?lG):RP X Ad Q u s'
def SP[?c9](D:Ends)(f:Flow)[?d6]:Prop :=
 match f with
 | .next=>?XY ?hF
 | .brk=>?XY D.bk
 | .cont=>?XY D.ct
 | .ret u=>RP X Ad D.rt u s'
def PE(X:Cx)(e:Expr)(t:TE):Prop :=
 ∀[?N] (Q:VK),?A->?g8->?VQ (?gW) ?bC
def PT(X:Cx)(e:Expr)(t:TT):Prop :=
 ∀[?N] [?j0],?ZY (?yR e ?h (?gW)) TP
def PW(X:Cx)(e:Expr)(t:TT):Prop :=
 ∀(whole:Sem ?aA) [?N] [?j0],?ZY (?DC) TP
theorem PW.pt{X:Cx}{e:Expr}{t:TT}(h:PW X e t):PT X e t:=h _
def PA(X:Cx)(es:?g9)(t:TA):Prop :=
 ∀(pos:Pos) [?N] (Q:?wI),?ZY (spliced (?tF)) AP
def PS(X:Cx)(st:Stmt)(t:TS):Prop :=
 ?ZW exec
def LG(X:Cx)(st:?eO)(t:TS):Prop :=
 ?ZW execs
theorem Dq[?gR]{t:Sem α}{Q Q':α->?eH}{M:Model}[?F][?a9][?aX](h:?VZ M t)(hQ:∀a s,Q a s->Q' a s):?e M A t Q' E s:=qk4 h hQ fun _ _ x=>x
section
variable{X:Cx}
theorem bin[?BV][?f4][?m8]{R:V->?l1}[?f][?V4]
 [?gR]{Q:α->?eH}{f:?aA->?aA->Sem α}
 [?T3] :
 ?L6:=by
 ext UR;ext bM;ext SX
inductive XG(i:Nat)(σ:St)[?b5]:Prop
 | mk:∀v,(?Q6)->(Q v H)->?MC
def Ai8(i:Nat):TE:=fun σ H Q=>?MC
def tC(v:V):TE:=?Y5 v
theorem YM[?f9][?a0](hN:?hS)(hv:?nB)[?iQ][?V5]:?GE:=by
 ext W;obtain⟨v,e,h⟩:=h;obtain⟨m,hn,hl⟩:=I.loc;obtain⟨u,r,l⟩:=hl i x v hN e hv;have fin:?WY u s:=?xZ
 rcases l with⟨hk,hm⟩|⟨hk,c,hc,hcell⟩
 . exact ?t4 (wpAny_loadName_local ?i8 hk hn hm fin) hd
 . rcases hk with hk | hk
   . exact ?t4 (wpAny_loadName_cell ?i8 hk hc hcell fin) hd
   . exact ?t4 (wpAny_loadName_free ?i8 hk hc hcell fin hcd) hd
theorem Am{i j pos}:?WX (?H) (?H):=?WQ wpAny_Constant_int ⟨?H,H,?gA,?fR,h⟩
theorem Fp{b j pos}:?WX (?cT b) (?bQ):=?WQ Constant_bool ⟨?bQ,H,I,rfl,h⟩
theorem Y5{j pos}:?WX ?b2 ?v:=?WQ Constant_none ⟨?v,H,I,rfl,h⟩
theorem Oc{x j pos}:?WX (?e8) (?e8):=?WQ Calls.Constant_str ⟨?e8,H,?gA,?fR,h⟩
def Gl(X:Cx)(x:Str):Prop:=?kN x=?c .globalImplicit
theorem X1[?a9][?m8]{x:Str}[?aL][?a0][?d3][?f][?mQ](hm:?l5=?T)(h:Q u s)
 [?iQ]:?GH :=
 ?E2 ?i8 hg (Calls.loadGlobal_global (?XU I.bk) hm h) hd
theorem Mg[?a9][?m8]{x:Str}[?aL][?a0][?d3][?f][?UO](h:Q u s)
 [?s7] [?iQ]:?GH:=by
 obtain⟨mb,h1,h2⟩:=I.mod.blt;exact ?E2 ?i8 hg (Calls.loadGlobal_builtin (?XU I.bk) hm (by rw[I.ok.blt];exact h1.keeps I.bk) ((h2 x hn).trans hv) h) hd
theorem Lp{x:Str}{v:V}[?aL][?a0][?mQ](hm:?l5=?T)[?fA][?iQ]:?ET :=
 fun _ _ _ H _ I h=>X1 I hg hm ?xZ hd
theorem Gz{x:Str}{v:V}[?aL][?a0][?UO][?fA][?s7][?iQ]:?ET :=
 fun _ _ _ H _ I h=>Mg I hg hm hv ?xZ hn hd
variable[?BV][?a0]
def PC(X:Cx)(op:CmpOp)(a b:Expr)(t:TE):Prop :=
 ∀[?N] (Q:VK),?A->?g8 →
   ?VQ (?t5) (?a0G (?b9 op v u) ?bC)
theorem PV(b:Expr){op:CmpOp}(h:?DR)(h2:?KZ):?oH:=by
 ext TE
 ext TC
 cases b<;>simp[behindInMarks,e1,e2]
inductive ItB[?j0](x:V)(H1:Hp):Prop
 | mk:∀c,?n3->(Q c H1)->?K6
def tB(t:TE):TT:=?VS t ?K6
theorem A69{op:CmpOp}{t:TE}(h:PC X op a b t)(h1:?oH:=by first | exact PV _ ?bH ?bH | rfl):?ZS tB t:=by
 intro Ad s σ H Q I hw;refine ?FG (Dq (?VX h hw) fun v s1 h1=>Dq h1 fun u s2 h2=>Dq h2 fun c s3 _z=>?_) h1;ext bM;ext TZ
theorem Ek{e:Expr}{t:TE}(h:?XK e t)(he:∀whole,?DC=(do let v ←whole;?uQ e.pos;?kF [v] (truthy v)):=by intro _;rfl):PT X e (tB t):=by
 intro Ad s σ H Q I hw;refine isTrue_plain (Dq (?VX h hw) ?fC) (he _);ext bM;ext TZ
variable{tA tB':TT}{rest:?g9}
def A54(t u:TT):TT:=fun σ H Q=>t σ H fun c H1=>if ?kR then ?KX else Q ?cS H1
def tOr(t u:TT):TT:=fun σ H Q=>t σ H fun c H1=>if ?kR then Q ?cJ H1 else ?KX
def A51(t:TT):TT:=fun σ H Q=>t σ H ?Q4
theorem N8[?mJ]:?YL [a] tA:=by
 intro wh Ad s σ H Q I h;refine isTrue_and (Dq (ha Ad s σ H Q I h) fun c s1 e=>?_);cases c with
 | true=>exact isTrue_and_nil e
 | false=>exact e
theorem P3[?mJ]:?YQ [a] tA:=by
 intro wh Ad s σ H Q I h;refine isTrue_or (Dq (ha Ad s σ H Q I h) fun c s1 e=>?_);cases c with
 | false=>exact isTrue_or_nil e
 | true=>exact e
theorem Ss[?mJ](hb:?YL (b::rest) tB'):?YL (a::b::rest) (A54 tA tB'):=by
 intro wh Ad s σ H Q I h;refine isTrue_and (Dq (ha Ad s σ H _ I h) fun c s1 _z=>?_);obtain⟨H1,I1,q1⟩:=_z;cases c with
 | true=>exact ?EP
 | false=>exact ?o3
theorem O8[?mJ](hb:?YQ (b::rest) tB'):?YQ (a::b::rest) (tOr tA tB'):=by
 intro wh Ad s σ H Q I h;refine isTrue_or (Dq (ha Ad s σ H _ I h) fun c s1 _z=>?_);obtain⟨H1,I1,q1⟩:=_z;cases c with
 | true=>exact ?o3
 | false=>exact ?EP
theorem Ez[?mJ]:PT X (?zM .Not a pos) (A51 tA):=by
 ext W;exact isTrue_not (Dq (ha Ad s σ H (?Q4) I h) fun c s1 ?o3=>?o3)
inductive RZ(tb:TE)(σ:St)[?j1]:Prop
 | mk:∀c,?n3->(if ?kR then ?wO else Q (?pP) H1)->?SC
def Aj8(ta tb:TE):TE:=?VS ta ?SC
inductive xH(tb:TE)(σ:St)[?j1]:Prop
 | mk:∀c,?n3->(if ?kR then Q (?AC) H1 else ?wO)->?NO
def A50(ta tb:TE):TE:=?VS ta ?NO
inductive RX[?j1]:Prop
 | mk:∀c,?n3->(Q (?O9) H1)->?LK
def Aj1(ta:TE):TE:=?VS ta ?LK
theorem Od{op}{t:TE}(h:?XK a t):?XK (?bU op [a] pos) t:=?XN BoolOp_one
theorem Me[?sU](hb:?XK (?bU .And (b::rest) pos) tb):?XK (?bU .And (a::b::rest) pos) (Aj8 ta tb):=by
 intro Ad s σ H Q I h;refine BoolOp_and (Dq (ha Ad s σ H _ I h) fun v s1 _z=>?_);obtain⟨x,H1,I1,r1,q1⟩:=_z;obtain⟨c,rfl,q1⟩:=q1;cases r1;refine qk0 ?_;cases c with
 | true=>ext BH
 | false=>exact(?ZA ?pP)
theorem Am0[?sU](hb:?XK (?bU .Or (b::rest) pos) tb):?XK (?bU .Or (a::b::rest) pos) (A50 ta tb):=by
 intro Ad s σ H Q I h;refine BoolOp_or (Dq (ha Ad s σ H _ I h) fun v s1 _z=>?_);obtain⟨x,H1,I1,r1,q1⟩:=_z;obtain⟨c,rfl,q1⟩:=q1;cases r1;refine qk0 ?_;cases c with
 | false=>ext BH
 | true=>exact(?ZA ?AC)
theorem pJ[?sU]:?XK (?zM .Not a pos) (Aj1 ta):=by
 ext W;refine ?CQ (?K9);ext bM;obtain⟨c,rfl,q1⟩:=q1;cases r1;exact not_of (qk0 (?ZA ?O9))
def tIf(t:TT)(ta tb:TE):TE:=fun σ H Q=>t σ H fun c H1=>if ?kR then ta σ H1 Q else ?wO
theorem Y6{c:Expr}(hc:PT X c tA)[?f4]:?XK (.IfExp c a b pos) (tIf tA ta tb):=by
 intro Ad s σ H Q I h;refine wpAny_IfExp (Dq (hc Ad s σ H _ I h) fun d s1 _z=>?_);obtain⟨H1,I1,q1⟩:=_z;cases d with
 | true=>exact ?VW ha Q
 | false=>ext BH
universe e9
def SqL[?d](H:Hp)[?cC][?a4]:Prop :=
 Rd H a ?k0 ∨
  ∃(o:Obj) (its:?c3) (n:Nat),?I2/\o.cls=?aZ/\?OQ
def Ed[?d](H:Hp)[?cC][?a4]:Prop :=
 Rd H a ?nR ∨
  ∃(o:Obj) (its:?c3) (n:Nat),?I2/\?tY/\?OQ
def Bj4:?aA->?lJ
 | ?b2=>?c ?v
 | ?cT b=>?c (?bQ)
 | ?j i _=>?c (?H)
 | ?dJ x _=>?c (?e8)
 | .bytes b _=>?c (.byt b)
 | .float b _=>?c (.flt b)
 | ?aB=>?c ?bG
 | ?aD n=>?c (.ty n)
 | _=>none
theorem RelV.abs{x:V}[?aL](r:?eP):Bj4 u=?cL:=by
 cases x with
 | non=>cases r;rfl
 | bl _=>cases r;rfl
 | int _=>ext f5;rfl
 | str _=>ext f5;rfl
 | byt _=>ext f5;rfl
 | flt _=>ext f5;rfl
 | ref _=>cases r;rfl
 | ty _=>cases r;rfl
theorem RelV.inj{x y:V}[?aL](r:?eP)(q:?jF):x=y:=qd7 (r.abs.symm.trans q.abs)
theorem Vals.inj:∀[?gL][?S],?b3->?P ys us->xs=ys
 | _,_,_,?u,?u=>rfl
 | _,_,_,?hR,?E r' t'=>by rw[?oL,Vals.inj t t']
section
variable{X:Cx}[?O][?bN][?gL]
theorem SqL.of[?aG](h:H a=?z8):?bD:=?i (?i h)
theorem Ed.of[?aG](h:H a=?r0):?dH:=?i (?i h)
theorem Bo.list[?f](h:?KF):∃its:?w,?i9/\PlainL ?D a ?J/\?eA:=by
 rcases h with h|⟨o,its,n,hk,hc,hd,hs,hz,r⟩
 . obtain⟨z,its,n,r,e⟩:=?K1;exact⟨its,r,⟨_,n,e,rfl,rfl,rfl⟩,z⟩
 . refine⟨?wQ,r,⟨o,n,?F9,hc,hd,?D4⟩,?_⟩;have e:=r.length;simp only[qv6]at e;omega
theorem Bo.tuple[?f][?BY]:∃its:?w,?i9/\?kZ ?D a ?J/\?eA:=by
 rcases h with h|⟨o,its,n,hk,hc,_,hs,hz,r⟩
 . obtain⟨z,its,r,p⟩:=?K1;exact⟨its,r,p.tup,z⟩
 . refine⟨?wQ,r,⟨o,?F9,hc,n,?D4⟩,?_⟩;have e:=r.length;simp only[qv6]at e;omega
theorem Bo.list_inj[?f](h:?KF)(h':?S3):xs=ys:=by
 obtain⟨its,r,⟨o,n,e,_,_,d⟩,_⟩:=?aY h;obtain⟨its',r',⟨o',n',e',_,_,d'⟩,_⟩:=?aY h';ext SZ
 subst this;exact ?oL
theorem Bo.tuple_inj[?f][?BY](h':Ed X.K H a ys):xs=ys:=by
 obtain⟨its,r,⟨o,e,_,n,d⟩,_⟩:=?bP h;obtain⟨its',r',⟨o',e',_,n',d'⟩,_⟩:=?bP h';ext SZ
 subst this;exact ?oL
universe e9
noncomputable abbrev Cx.wish(X:Cx)[?mB]:Cx:={ X with xe:=E }
noncomputable abbrev Cx.nox(X:Cx):Cx:=X.wish ?fO
theorem Cx.Ok.wish{X:Cx}(ok:X.Ok)[?mB]:?MA :=
 ?OG
theorem Cx.Ok.unwish{X:Cx}[?a9](ok:?MA):X.Ok :=
 ?OG
section
variable{X:Cx}[?O][?a9]
theorem Bo.wish[?f][?mB]:?DO:=⟨I.ok.wish E,?hJ,?bB,?u4,?lR,?eS,?dL,?cW,?gY,?aT,?r1⟩
theorem Bo.unwish(I:?DO):?A:=⟨I.ok.unwish,?hJ,?bB,?u4,?lR,?eS,?dL,?cW,?gY,?aT,?r1⟩
theorem SP.unwish{D:Ends}{f:Flow}{s':Shared}(h:SP (X.wish E) Ad D f s'):SP X Ad D f s':=by
 cases f with
 | next=>ext AT
 | brk=>ext AT
 | cont=>ext AT
 | ret u=>obtain⟨v,σ',H',I,r,q⟩:=h;exact⟨v,σ',H',?QB,r,q⟩
theorem LG.nox{st:?eO}{t:TS}(h:LG X.nox st t):LG X st t:=fun Ad s σ H D I hw =>
 qk4 (h Ad s σ H D (I.wish _) hw) (fun _ _ q=>q.unwish) fun _ _ z=>?dC z
universe e9
section
variable{X:Cx}{st:Stmt}{rest:?eO}{t u:TS}[?sS][?a0]
def Aj2:TS:=fun D σ H=>?dA
def At(t u:TS):TS:=fun D σ H=>t { D with nx:=u D } σ H
theorem Bl:LG X [] Aj2:=fun _ _ σ H _ I h=>qv7 ?F6
theorem Ae(h1:?CN)(h2:LG X rest u):LG X (st::rest) (At t u):=by
 intro Ad s σ H D I h;refine wpAny_execs_cons (Dq (h1 Ad s σ H { D with nx:=u D } I h) fun f s1 q=>?_);cases f with
 | next =>
   obtain⟨σ',H',I',q⟩:=q;exact h2 Ad s1 σ' H' D I' q
 | ret v=>exact q
 | brk=>exact q
 | cont=>exact q
theorem Ah(h1:?CN):LG X [st] t:=by
 intro Ad s σ H D I h;refine wpAny_execs_cons (Dq (h1 Ad s σ H D I h) fun f s1 q=>?_);cases f with
 | next=>exact qv7 q
 | ret v=>exact q
 | brk=>exact q
 | cont=>exact q
theorem Bo.quiet[?O][?f]:interactive ?h=false:=by simp[interactive,I.ok.kind]
def Aj4(te:TE):TS:=fun D σ H=>te σ H fun _ H1=>?LD
theorem Bx[?gK](hs:?pC e ?a1 ?oC ?h=?qT:=by rfl):PS X (.Expr e pos) (Aj4 te):=by
 ext gG;exact wpAny_Expr_any (Dq ?fM fun v s1 ?kL=>⟨σ,H1,I1,q1⟩) I.quiet hs
def A49(te:TE):TS:=fun D σ H=>te σ H D.rt
theorem Bb[?gK]:PS X (.Return (?c e) pos) (A49 te):=by
 ext gG;exact wpAny_Return_some (Dq ?fM fun v s1 ?kL=>⟨x,σ,H1,I1,r1,q1⟩)
def tK(c:TT)(t u:TS):TS:=fun D σ H=>c σ H fun b H1=>if ?k4 then t D σ H1 else u D σ H1
theorem B7{c:Expr}{a b:?eO}{tc:TT}(hc:?RK)(ha:LG X a t)(hb:LG X b u):PS X (.If c a b pos) (tK tc t u):=by
 intro Ad s σ H D I h;refine wpAny_If (Dq (hc Ad s σ H _ I h) fun d s1 _z=>?_);obtain⟨H1,I1,q1⟩:=_z;cases d with
 | true=>exact ?VW ha D
 | false=>exact ?VW hb D
def YB:TS:=?o0
theorem Ty:PS X st YB:=fun _ _ _ _ _ _ h=>h.elim
universe e9
noncomputable abbrev TG:=V->?ZV ?M
noncomputable abbrev sW:=?o->?ZV ?M
def PG(X:Cx)(target:Expr)(t:TG):Prop :=
 ∀[?N] (v:V) [?e2] (Q:?M),?A->?cZ->t v σ H Q →
   ?VQ (?e7 target ?h u) (fun _ s'=>NP X Ad Q s')
def PGs(X:Cx)(ts:?g9)(t:sW):Prop :=
 ∀[?N] [?e1] [?d5] (Q:?M),?A->?fF->t vs σ H Q →
   ?e ?k X.A (assignInOrder ((?rG ts ?h).map (·.2)) us) (fun _ s'=>?XY Q) ?l s
noncomputable abbrev Ab2:=V->V->V->?W8 Hp (?a5)
def Av0(X:Cx)(t:Ab2):Prop :=
 ∀[?N] (o i v:V) (ov iv u:Value) (Q:?a5),?A->?bR o ov->?bR i iv->?cZ->t o i v H Q →
   ?VQ (setItem ov iv u) (fun _ s'=>?OU)
section
variable{X:Cx}[?a0]
def bK(i:Nat):TG:=fun v σ H Q=>Q (σ.set i ?k2) H
theorem uC[?f9][?rT][?gC]:?RG:=by
 intro Ad s σ H v u Q I r h;exact ?GV (EN I hN hi hx r (fun s' I'=>⟨_,H,I',h⟩) hf)
theorem Ar[?f9](hN:X.N.Nodup)[?U6][?gC]:?RG:=uC hN hi hx hf
structure Av9[?e1][?BJ]:Prop where
 mk::(left:?n7) (right:Q σ H)
def Bh9:sW:=fun vs σ H Q=>Av9 vs σ H Q
inductive SN(t:TG)(u:sW)[?e1][?BJ]:Prop
 | mk:∀v r,(vs=v::r)->(t v σ H fun σ' H'=>u r σ' H' Q)->?HZ
def As5(t:TG)(u:sW):sW:=fun vs σ H Q=>?HZ
theorem Eg:PGs X [] Bh9:=by
 intro Ad s σ H vs us Q I r h;obtain⟨e,h⟩:=h;subst e;cases r;exact assignInOrder_nil ?F6
theorem Bp{e:Expr}[?aJ]{t:TG}{u:sW}(h1:PG X e t)(h2:PGs X es u)
 (hs:(?rG ?cY ?h).map (·.2)=?e7 e ?h::(?tZ).map (·.2):=by rfl):PGs X ?cY (As5 t u):=by
 intro Ad s σ H vs us Q I r h;obtain⟨v,vr,e1,h⟩:=h;subst e1;cases r with
 | cons r rr =>
   rw[hs];refine assignInOrder_cons (Dq (h1 Ad s σ H _ _ _ I r h) fun _ s1 _z=>?_);obtain⟨σ1,H1,I1,q1⟩:=_z;exact h2 Ad s1 σ1 H1 _ _ Q I1 rr q1
inductive xP[?d](n:Nat)(t:sW)(v:V)[?BJ]:Prop
 | mk:∀a xs,(?h5)->?kB->(xs.length=n)->(t xs σ H Q)->?KQ
def As4[?d](n:Nat)(t:sW):TG:=fun v σ H Q=>?KQ
theorem yM[?aJ]{k:Nat}{t:sW}{n:Nat}[?d4](h:?DM)
 [?VA] (hst:?F1 (·.1)=none:=by rfl):?Z0 X.K:=by
 intro Ad s σ H v u Q I r hw;obtain⟨a,xs,e1,hq,hl,hw⟩:=hw;subst e1;cases r;obtain⟨its,rv,ht,hz⟩:=?fJ;refine assign_Tuple_tuple ?dF ht (by simp[hn,←hl,rv.length]) hst fun h' hx=>?_;have I1:?zW:=?lS (t':=s.toks) fun b o e=>hx b o (qd1 ?eR) e;exact h Ad _ σ H xs _ Q I1 (?M6) hw
def Bh8(to ti:TE)(t:Ab2):TG:=fun v σ H Q=>to σ H fun o H1=>ti σ H1 fun i H2=>t o i v H2 fun H3=>Q σ H3
theorem K3{o i:Expr}{to ti:TE}{t:Ab2}(ho:?NK)(hi:?XK i ti)(hs:Av0 X t)
 (ha:∀v,?e7 (?qS o i pos) ?h v=(do
   let ov ←?kF [v] (?l0)
   let iv ←?kF [v,ov] (?ZZ i)
   ?uQ pos
   ?kF ?MH (setItem ov iv v)
   release ?MH []):=by intro _;rfl):PG X (?qS o i pos) (Bh8 to ti t):=by
 intro Ad s σ H v u Q I r h;rw[ha];refine qa5 (qn4 (Dq (?VX ho h) fun ov s1 _z=>?_));ext bM;refine qa5 (qn4 (Dq (?VW hi _) fun iv s2 _z=>?_));obtain⟨y,H2,I2,r2,q2⟩:=_z;refine ?YI ?y0 (qn4 (Dq (hs Ad s2 σ H2 x y v ov iv u _ I2 r1 r2 r q2) fun _ s3 _z=>?_));obtain⟨H3,I3,q3⟩:=_z;exact wpAny_release ⟨σ,H3,I3,q3⟩
def tL(te:TE)(g:TG):TS:=fun D σ H=>te σ H fun x H1=>g x σ H1 ?hF
theorem K0{tg e:Expr}{te:TE}{g:TG}[?gK](hg:?J0)(hs:swapsWithSole [tg] e ?oC ?h=?qT:=by rfl)(hw:swappedStores [tg] e ?h=?U ?a1:=by rfl)
 (h1:(?rG [tg] ?h).map (·.2)=[?e7 tg ?h]:=by rfl):PS X (?qE [tg] e pos) (tL te g):=by
 ext gG;refine wpAny_Assign_stores (Dq ?fM ?fC) hs hw;ext bM;rw[h1];exact Dq (hg Ad s1 σ H1 x v _ I1 r1 q1) fun _ s2 q=>q
theorem yK[?f9][?sS]{pos':Pos}[?rT][?gK][?TS][?gC] :
 ?IG:=by
 ext gG;refine wpAny_Assign_Name (Dq ?fM ?fC) hs;obtain⟨y,H1,I1,r1,q1⟩:=_z;exact EN I1 hN hi hx r1 (fun s2 I2=>⟨_,H1,I2,q1⟩) hf
theorem Av[?f9][?sS]{pos':Pos}(hN:X.N.Nodup)[?gK][?U6][?TS][?gC]:?IG:=yK hN hi hx he hs hf
universe e9
section
variable{X:Cx}[?a0]
def XZ(c:TT)(tb:TS):TS:=fun D σ H=>∃W:?mU,(∃m,?GI)/\∀m σ H,?GI →
 c σ H fun b H1=>if ?k4 then ∃N:?M,(∀σ' H',?rP->∃m',m'<m/\W m' σ' H')/\tb ?EG σ H1 else ?LD
theorem Tx{c:Expr}{body:?eO}{tc:TT}{tb:TS}[?V8](hc:?RK)(hb:?L9):PS X (.While c ?g1 [] pos) (XZ tc tb):=by
 intro Ad s σ H D I h;obtain⟨W,⟨m0,w0⟩,turn⟩:=h;refine wpAny_While (codeAny_whileLoop (fun n s'=>∃σ' H',Bo X Ad σ' H' s'/\W n σ' H') ?_ m0 ⟨σ,H,I,w0⟩);rintro n s1 ⟨σ1,H1,I1,w1⟩;refine qn1 hp (Dq (hc Ad s1 σ1 H1 _ I1 (turn n σ1 H1 w1)) fun b s2 _z=>?_);obtain⟨H2,I2,q2⟩:=_z;cases b with
 | true =>
   obtain⟨N,hN,q2⟩:=q2;rw[if_pos rfl];refine qn1 hp (Dq (hb Ad s2 σ1 H2 _ I2 q2) fun f s3 q3=>?_);cases f with
   | next =>
     ext T6
   | cont =>
     ext T6
   | brk=>exact q3
   | ret v=>exact q3
 | false =>
   rw[?s qd8];exact qv7 ⟨σ1,H2,I2,q2⟩
universe e9
structure It where
 go:?PR
 yld:Nat->Hp->?l1
 stop:?PR
def Rl[?c9](H:Hp)(b:Addr):Prop :=
 ?X/\?h6/\?rR/\(b∈X.ex\/?W3 b)/\?NF
theorem Bo.fpOk[?BU][?e3][?aX]{b:Addr}[?f](hb:?XG b)(hn:?nZ):?OY:=by
 refine⟨hn,qk6 (qb3 I.lt hb),I.nofs hb,?g (qa6 I.sz hb),fun x c e z=>?_,fun p hp z=>?_⟩
 . obtain⟨v,q⟩:=?nK;exact ?WZ q.lt (by rw[z];exact hb)
 . exact ?WZ (qb2 (?EB).1) (by rw[z];exact hb)
structure Wf[?f6][?d](tg:Expr)(J:It)[?sT](it:Addr)(tn:?qG):Prop where
 mem:it∈fp
 obj:∀i h,tn i h->∀b∈fp,∃o,?dO/\?FB
 keep:∀i h h',tn i h->(∀b∈fp,∀o,?dO->?oV)->tn i h'
 item:∀(X:Cx),?QY->X.w=w->X.K=K->?pY->∀(i:Nat) [?N] [?mB],?A->(?xI)->?u0->?u6 →
  ?e ?g2 X.A (pyNext ?cV) (fun r s1=>∃u,r=?T ∧
   ?e ?g2 X.A (letOwnedTupleGo tg ?cV u) (fun _ s2=>YP X Ad σ u (J.yld i H) (tn ?aH s2.heap) fp s2) E s1) E s
 done:∀(X:Cx),?QY->X.w=w->X.K=K->?pY->∀(i:Nat) [?N] [?mB],?A->(?xI)->?u0->?zB →
  ?e ?g2 X.A (pyNext ?cV) (fun r s1=>r=none/\?VY H s1) E s
 self:∀[?j6] (i:Nat) [?m0],?u0->Q ?cV s->?VZ ?g2 (?sZ ?cV)
noncomputable abbrev TI:=?ZV ?r5
def PIE[?c9](σ:St)(tg:Expr)[?sN](itv:Value)(s2:Shared):Prop :=
 ∃(it:Addr) (fp:?aS) (tn:?qG) (J:It) (H':Hp),itv=?m it/\?KD/\?P0/\tn 0 s2.heap/\(?RS)/\R J H'
def PI(X:Cx)(tg iter:Expr)(wi:TI):Prop :=
 ∀[?N] [?sN],?A->wi σ H R →
   ?VQ (?ZZ iter) (fun v s1=>?e ?k X.A (?sZ v) (PIE X Ad σ tg R) ?l s1)
theorem GA{M:Model}[?F][?a9][?aX]{tg:Expr}{it:Addr}[?aL]{o:Obj}{n:String}{vs:?c3}[?mD](ho:?bI it=?r)(hc:o.cls=?aD n)(hd:o.data=?h3 vs)
 (hn:?VT n=false) (hQ:Q () s):?VZ M (letOwnedTupleGo tg ?cV u):=by
 unfold letOwnedTupleGo
 cases tg<;>first
  | exact ?xH
  | (cases u<;>first
      | exact ?xH
      | (refine qa5 (wpAny_load ho ?_)
         rw[hc,hd];show ?e M A (if ?a07 (?VT n&&vs[0]?==?c (rawInt _)) then _ else _) Q E s;rw[?s (by intro h;rw[hn,Bool.false_and]at h;cases h)];exact ?xH))
def Itl[?d][?cC]:It :=
 ⟨?CK,fun i H x H'=>H'=H/\?P2,?G9⟩
def Itt[?d][?cC]:It :=
 ⟨fun i H=>∃xs x,?dH/\?b0,fun i H x H'=>H'=H/\∀xs,?dH->?b0,fun i H=>∃xs,?dH/\?vM⟩
def vS(lo:Int)(n:Nat):It:=⟨fun i _=>i<n,fun i H x H'=>H'=H/\x=?l6,fun i _=>n<=i⟩
theorem LQ[?c7]{tg:Expr}(a it:Addr):?YJ ?nU (fun i h=>?D1) where
 mem:=?Q
 obj:=fun i h st b hb=>by
  ext s4
  ext TH
 keep:=?IO
 item:=by
  ext d1;ext T7;ext gE;refine wpAny_pyNext_list_item st ?a8 (x:=u) ?n9 ?IJ;ext SQ;exact(?X2 ⟨rfl,?N9⟩)
 done:=by
  ext d1;ext TV;ext gE;have hl:=rv.length;exact wpAny_pyNext_list_end ?dF st ?a8 ?jB ?vY
 self:=?XH wpAny_pyIter_listiter
theorem HD[?c7]{tg:Expr}(a it:Addr):?YJ ?q2 (fun i h=>h.IsTupleIter it a i) where
 mem:=?Q
 obj:=fun i h st b hb=>by
  ext s4
  ext TH
 keep:=?IO
 item:=by
  ext d1;obtain⟨xs,x,hq,hx⟩:=hg;obtain⟨its,rv,p,hz⟩:=?fJ;obtain⟨u,hu,ru⟩:=?lD hx;ext gE;refine wpAny_pyNext_tuple_item st (?YW a) (x:=u) ?n9 ?IJ;ext SQ;exact(?X2 ⟨rfl,?a02 ?JN⟩)
 done:=by
  ext d1;obtain⟨xs,hq,hx⟩:=hg;obtain⟨its,rv,p,hz⟩:=?fJ;ext gE;have hl:=rv.length;exact wpAny_pyNext_tuple_end ?dF st (?YW a) ?jB ?vY
 self:=?XH wpAny_pyIter_tupleiter
theorem HE[?c7]{tg:Expr}(it:Addr)(lo:Int)(n:Nat):?YJ (?gS) (fun i h=>?QS h it (lo+(i:Nat)*1) (?aQ-(i:Nat)) 1) where
 mem:=?Q
 obj:=fun i h st b hb=>by
  ext s4
  subst e
  exact⟨_,st,fun v z=>by
   have z':?yS:=z;cases z'⟩
 keep:=fun i h h' st k=>k it ?q _ st
 item:=by
  ext d1;ext gE;have W:=Walks.range (prog:=X.prog) (w:=X.w) ?dF it lo 1 n;refine W.item i s _ _ hg st fun v h' tk hv st' kk=>?_;obtain⟨t,rfl⟩:=hv;have I1:?EE:=?mT (fun b o hb e=>kk b o (?eX) e) f0 f1 f3 f4 f5;refine⟨_,rfl,GA (s:=?CC) (n:="range_iterator") st' rfl rfl ?bH ⟨?l6,H,I1,⟨t,?_⟩,?J8,st',?nG⟩⟩;rw[qm4]
 done:=by
  ext d1;ext gE;exact wpAny_pyNext_range_end ?dF st (by have:n<=i:=hg;omega) ?vY
 self:=?XH wpAny_pyIter_rangeiter
section
variable{X:Cx}{tg:Expr}
inductive SJ[?d][?sN](x:V)(H1:Hp):Prop
 | mk:∀a,?cK->?YV ?nU ?G1
def wX[?d](tl:TE):TI:=?YX ?G1
inductive XO[?d][?sN](x:V)(H1:Hp):Prop
 | mk:∀a,?cK->((∃xs,Ed K H1 a xs))->(R ?q2 H1)->?KO
def Ap3[?d](tl:TE):TI:=?YX ?KO
theorem uB{l:Expr}{tl:TE}[?sV]:?YG wX X.K:=by
 ext TK;ext bM;ext UE;obtain⟨its,rv,p,hz⟩:=?qK hq;refine qt9 ?a8 ?_;refine(?XW LQ);ext UW
 ext AW
theorem YL{l:Expr}{tl:TE}[?sV]:?YG Ap3 X.K:=by
 ext TK;ext bM;ext UE;obtain⟨its,rv,p,hz⟩:=I1.tuple hq;refine qm9 (show s1.heap.IsTuple a ?J from p) ?_;refine(?XW HD);ext UW
 ext AW
theorem fC[?O]{R:?r5}[?a9]{lo hi:Int}{t u v:Tok}{tk:Nat}[?f](h1:-(?bZ)<=lo)(h2:lo<?bZ)(h3:-(?bZ)<=hi)(h4:hi<?bZ)
 (q:R (vS lo ?nN) H):?e ?k X.A (?sZ ?h4) (PIE X Ad σ tg R) E ?SA:=by
 refine wpAny_pyIter_range (IsRange.new ..) (small_one h1 h2 h3 h4) ?_;have I1:?VY H ?SA:=?lS ?p0
 refine⟨?v8,[?v8],_,_,H,rfl,
  ?v4 (t':=tk) ?p0,HE _ lo ?nN,?_,?cF,q⟩
 . have e1:?F5=lo:=?Q
   have e2:((?nN:Nat):Int)-?zF=Builtin.Range.rangeSize lo hi 1:=by rw[rangeSize_one];split<;>omega
   show ?QS _ _ (?F5) (((?nN:Nat):Int)-?zF) 1;rw[e1,e2];exact ?g7
 . have e:b=?v8:=?eX
   ext AW
inductive sJ[?s3]:Prop
 | mk:∀j:Int,(vs=[?j j])->(-(?bZ)<=j)->(j<?bZ)->(R (vS 0 j.toNat) H1)->?KL
def Ap5(ta:TA):TI:=?WB ?KL
inductive SI[?s3]:Prop
 | mk:∀i j:Int,(vs=?w2)->((-(?bZ)<=i/\i<?bZ/\-(?bZ)<=j/\j<?bZ))->(R (vS i (j-i).toNat) H1)->?FD
def Ap4(ta:TA):TI:=?WB ?FD
theorem Ch{a:Expr}[?UH](ha:?JO)[?UM]:PI X tg (?WR ?kJ [a]) (Ap5 ta):=by
 intro Ad s σ H R I h;refine Call_ (Mg I hg hm boot_range (qg8 (Dq (ha pos Ad s σ H _ I h) fun us s1 _z=>?_) hs rfl));obtain⟨vs,H1,I1,r1,q1⟩:=_z;obtain⟨j,e,q1,q2,q⟩:=q1;subst e;cases r1 with
 | cons r rr =>
   cases rr;ext f5;exact call_range_1 (fC I1 O9m O9m q1 q2 (by simpa using q))
theorem AY{a b:Expr}[?UH](ha:?OD)[?SY] :
 PI X tg (?WR ?kJ ?b1) (Ap4 ta):=by
 intro Ad s σ H R I h;refine Call_ (Mg I hg hm boot_range (qg8 (Dq (ha pos Ad s σ H _ I h) fun us s1 ⟨vs,H1,I1,r1,q1⟩=>?_) (by rw[hs,hs2]) (by rw[hs2];rfl)));obtain⟨i,j,e,⟨q1,q2,q3,q4⟩,q⟩:=q1;subst e;cases r1 with
 | cons r rr =>
   cases rr with
   | cons r' rr =>
     cases rr;ext f5;obtain⟨t',rfl⟩:=r';exact call_range_2 (fC I1 q1 q2 q3 q4 q)
def A53(wi:TI)(g:TG)(tb:TS):TS:=fun D σ H=>wi σ H fun J H1=>∃W:?hQ,(∃m,W 0 m σ H1)/\∀i m σ H,?i5 →
 (?zB/\?dA)\/(?u6/\∃N:?M,?iE/\∀x H',?JQ->?h2)
def Y3[?sT][?d8]:Bn:=fp.filterMap fun b=>(?pS).map fun o=>?q3
theorem Og[?e0][?d9][?j3](hb:b∈fp)(e:?dO):?q3∈Y3 fp h:=List.mem_filterMap.mpr ⟨b,hb,by rw[e];rfl⟩
theorem MJ[?e0][?d9]{p:?D9}(hp:p∈Y3 fp h):p.1∈fp/\?k7 p.1=?c p.2:=by
 obtain⟨b,hb,e⟩:=List.mem_filterMap.mp hp;cases q:h.get? b with
 | none=>rw[q]at e;cases e
 | some o =>
   rw[q]at e;have e':?q3=p:=qd7 e;subst e';exact⟨hb,q⟩
theorem Bo.pinned[?O][?e0][?f][?iW](ho:∀b∈fp,∃o,?bS/\?FB):Bo X (Ad++Y3 fp ?D) σ H s :=
 ?O3 fun p hp=>?G2 (fun z=>?gY p (qg2 _ z)) fun z=>by
  obtain⟨hb,e⟩:=MJ z;obtain⟨f0,f1,f2,_⟩:=hf p.1 hb;obtain⟨o,e',d⟩:=ho p.1 hb;rw[e]at e';cases e';exact⟨e,f0,f1,f2,d⟩
theorem Bo.unpinned{Ad pl:Bn}{σ:St}{H:Hp}[?aX](I:Bo X (Ad++pl) σ H s):?A:=?O3 fun p hp=>?gY p (qg2 _ (qn0 _ hp))
theorem B8{iter:Expr}{body:?eO}{wi:TI}{g:TG}{tb:TS}[?a0][?V8][?d4](hi:?CX)(hg:?J0)(hb:?L9)
 [?AU]:PS X (.For tg iter ?g1 [] pos) (A53 wi g tb):=by
 ext gG;refine wpAny_For (?VV h) hs;obtain⟨it,fp,tn,J,H2,e,I2,T,st2,f2,W,⟨m0,w0⟩,turn⟩:=h2;subst e;have HJ:∀{H':Hp},?hW->?RS:=fun hn b hb=>⟨hn b hb,(f2 b hb).2⟩
 refine codeAny_forLoop_any (fun n s'=>∃i σ' H',?PL/\?QN/\?hW/\W i n σ' H') ?_ m0 ⟨0,σ,H2,I2,st2,fun b hb=>(f2 b hb).1,w0⟩;rintro n s3 ⟨i,σ3,H3,I3,st3,sS,w3⟩;rcases turn i n σ3 H3 w3 with⟨stop,qn⟩|⟨go,N,hN,step⟩
 . refine qn1 hp (Dq (T.done X rfl rfl rfl hc i Ad s3 σ3 H3 ?l I3 ?oS st3 stop) ?q5);obtain⟨hr,I4⟩:=_z;subst hr;exact qv7 ⟨σ3,H3,I4,qn⟩
 . refine qn1 hp (Dq (T.item X rfl rfl rfl hc i Ad s3 σ3 H3 ?l I3 ?oS st3 go) ?q5);obtain⟨u,hr,h4⟩:=_z;subst hr;refine qn1 hp (Dq h4 ?PB);ext TD;refine qn1 hp (Dq (hg _ s5 σ3 H5 x u _ I5' r5 (step x H5 y5)) fun _ s6 _z=>?_);obtain⟨σ6,H6,I6,q6⟩:=_z;refine qn1 hp (Dq (hb _ s6 σ6 H6 _ I6 q6) fun f s7 q7=>?_)
   have again:∀{σ7:St}{H7:Hp},Bo X (Ad++?DH) σ7 H7 s7->N σ7 H7->∃m,m<n/\∃i σ' H',Bo X Ad σ' H' s7/\?NN/\?hW/\W i m σ' H':=fun {σ7 H7} I7 n7=>by
    obtain⟨m',hm,w7⟩:=hN σ7 H7 n7;refine⟨m',hm,i+1,σ7,H7,?qH,?P1,?cF,w7⟩;ext T9
   cases f with
   | next=>ext UQ
   | cont=>ext UQ
   | brk=>obtain⟨σ7,H7,I7,q7⟩:=q7;exact⟨σ7,H7,?qH,q7⟩
   | ret v=>obtain⟨x7,σ7,H7,I7,r7,q7⟩:=q7;exact⟨x7,σ7,H7,?qH,r7,q7⟩
universe e9
theorem for_list[?f3][?rS][?UT]
 [?ST] :
 ∃W:?hQ,?kG/\∀i m σ H,?i5 →
   (?X8 ?mR)\/(?VR ?mR ?mR):=by
 ext AK;ext BF;have q:=?HC;ext iV
 . ext AH;ext s8;exact ?LY
 . ext iX
   ext UB
theorem kU[?f3][?rS](hl:∀i σ H,?gZ->?dE->?dH)
 [?ST] :
 ∃W:?hQ,?kG/\∀i m σ H,?i5 →
   (?X8 ?nD)\/(?VR ?nD ?nD):=by
 ext AK;ext BF;have q:=?HC;ext iV
 . ext AH;ext s8;exact ?LY
 . ext iX
   ext UB
theorem Cn{lo:Int}{n:Nat}[?rS]
 (hs:∀i σ H,i<n->?dE->g (?l6) σ H ?qY) [?VG] :
 ∃W:?hQ,?kG/\∀i m σ H,?i5 →
   (?X8 ?gS)\/(?VR ?gS ?gS):=by
 ext TG;ext BF;by_cases hlt:i<n
 . refine ?XT hlt ?RJ;obtain⟨e,y⟩:=y;subst e y;exact hs i σ _ hlt p
 . have e:i=n:=O9m
   subst e;exact ?X7 ?cO ?PI
noncomputable abbrev R2:=V->?jK
def OpR(X:Cx)(f:?SG)(r:R2):Prop :=
 ∀[?N] (x y:V) (v u:Value) (Q:VK),?A->?dW->?jF->?H0 →
   ?VQ ?vA ?bC
def UnR(X:Cx)(f:?zU)(r:?jK):Prop :=
 ∀[?N] (x:V) (v:Value) (Q:VK),?A->?dW->r x H Q →
   ?VQ (f v) ?bC
def Fu(X:Cx)(f:Value)(r:?cM):Prop :=
 ∀[?N] [?a4] [?d5] (Q:VK),?A->?b3->?C3 →
   ?VQ (call f us) ?bC
def tOp(r:R2)(ta tb:TE):TE:=fun σ H Q=>ta σ H fun x H1=>tb σ H1 fun y H2=>r x y H2 Q
def tUn(r:?jK)(ta:TE):TE:=fun σ H Q=>ta σ H fun x H1=>r x H1 Q
inductive IrI(C:?uZ)[?sR][?c8]:Prop
 | mk:∀i j,?p3->(y=?j j)->(C i j)->?PK->?IH
def rI(C:?uZ)[?sR]:R2:=?WG ?IH
inductive Av8[?sR][?c8]:Prop
 | mk:∀i j,?p3->(y=?j j)->?PK->?KV
def WE[?sR]:R2:=?WG ?KV
inductive IrU(g:?tU)(x:V)[?b5]:Prop
 | mk:∀i,?p3->(Q (g i) H)->?N6
def rU(g:?tU):?jK:=fun x H Q=>?N6
section
variable[?VK][?a0]
theorem Aa9[?f4][?m8]{R:V->?l1}[?f]
 [?V4] [?d3][?sC]
 [?T3] :
 ?L6:=by
 ext UR;ext bM;ext SX
theorem Br{op:Operator}{r:R2}(ho:?XB (?g4 op) r)[?f4]:?XK (.BinOp a op b pos) ?n2:=by
 ext W;exact wpAny_BinOp (?WE u)
theorem M4{op:UnaryOp}{r:?jK}(ho:UnR X (unaryOp op) r)[?sU]:?XK (?zM op a pos) (tUn r ta):=by
 ext W;exact ?CQ (Dq ?jL fun v s1 ?kL=>ho Ad s1 σ H1 x v Q I1 r1 q1)
theorem opI[?sC]{C:?uZ}{g:?JE}
 (rule:∀[?BW] [?m0],C i j->?J1) :
 ?XB f (rI C ?MF):=by
 ext dZ;obtain⟨i,j,rfl,rfl,hc,q⟩:=h;ext gH;ext y;exact rule i j t t' s _ _ hc ?RM
theorem Am6[?sC]{g:?JE}
 (rule:∀[?BW] [?m0],?J1) :
 ?XB f (WE ?MF):=by
 ext dZ;obtain⟨i,j,rfl,rfl,q⟩:=h;ext gH;ext y;exact rule i j t t' s _ _ ?RM
theorem uI[?sC]{g:Int->?R6}
 (rule:∀[?BW] [?m0],Q (?cT ?fV) s->?OZ) :
 ?WC f ?fV:=by
 ext dZ;obtain⟨i,j,rfl,rfl,q⟩:=h;ext gH;ext y;exact rule i j t t' s _ _ ⟨.bl ?fV,H,I,rfl,q⟩
def Bo7(i j:Int):Prop:=0<j/\?IF
def vU(i j:Int):Prop:=(-(?oN)<i/\i<?oN)\/(-(?oN)<j/\j<?oN)
theorem vU.ok{i j:Int}(h:vU i j):IntMulOk i j:=by
 rcases h with⟨h1,h2⟩|⟨h1,h2⟩
 . exact .of_left (intBits_le_64 h1 h2)
 . exact .of_right (intBits_le_64 h1 h2)
theorem Dl:?XB ?iK (WE (?a0E (i+j))):=?W5 Am6 add_int
theorem Ix:?XB (?g4 .Sub) (WE (?a0E (i-j))):=?W5 Am6 sub_int
theorem Xz:?XB (?g4 .FloorDiv) (rI Bo7 (?a0E (i / j))):=opI fun i j _ _ _ _ _ hc q=>by
 have h1:(0:Int)<j:=hc.1;have h2:?IF:=hc.2;exact floordiv_int O9m (by rw[qg1 i ?aF];exact q) (?i (PyProof.noPylong_small O9m))
theorem Iy:?XB (?g4 .Mod) (rI (fun _ j=>0<j) (?a0E (i%j))):=opI fun i j _ _ _ _ _ hc q=>by
 have h1:(0:Int)<j:=hc;exact mod_int' O9m (by rw[Int.fmod_eq_emod_of_nonneg i ?aF];exact q)
theorem unI{f:?zU}{g:?RQ}
 (rule:∀(i:Int) (t:Tok) [?m0],Q (?j (g i) ?rM) ?hT->?ZH (f ?q8)) :
 UnR X f (rU fun i=>?j (g i)):=by
 intro Ad s σ H x v Q I rx h;obtain⟨i,rfl,q⟩:=h;ext gH;exact rule i t s _ _ ⟨?j (g i),H,?gA,?fR,q⟩
theorem Im:UnR X (unaryOp .USub) (rU fun i=>?j (-i)):=unI fun _ _ _ _ _ q=>neg_int q
universe e9
def scal:V->V->?cU
 | ?v,?v=>true | ?v,?dN=>true | ?dN,?v=>true | ?v,?eN=>true | ?eN,?v=>true | ?v,?bW=>true | ?bW,?v=>true
 | ?dN,?dN=>true | ?eN,?eN=>true | ?bW,?bW=>true | .byt _,.byt _=>true
 | ?dN,?bW=>true | ?bW,?dN=>true | ?eN,?bW=>true | ?bW,?eN=>true
 | _,_=>false
structure Bo2[?c8]:Prop where
 mk::(left:?PS) (right:?WL (?LW))
def rEq:R2:=fun x y H Q=>Bo2 x y H Q
structure Bo1[?c8]:Prop where
 mk::(left:?PS) (right:?WL (! ?LW))
def rNe:R2:=fun x y H Q=>Bo1 x y H Q
theorem KY{i j:Int}:?n (?c1 i=?c1 j)=?zV:=by
 rw[qm5];simp
theorem RC{i j:Bool}:?n (V.bl i=V.bl j)=?zV:=by
 rw[qm5];simp
theorem kY{i j:Str}:?n (V.str i=V.str j)=?zV:=by
 rw[qm5];simp
theorem kZ{i j:?DB}:?n (V.byt i=V.byt j)=(i.toList==j.toList):=by
 rw[qm5];cases i;cases j;simp
section
variable[?VK][?a0]
theorem Cr[?O]{Q:VK}{k k':Bool}[?f](q:Q (?qO) H)(e:k=k'):?WY (?cT k') s:=by
 subst e;exact⟨?qO,H,I,rfl,q⟩
theorem Fg:?XB (?b9 .Eq) rEq:=by
 intro Ad s σ H x y v u Q I rx ry h;obtain⟨hs,q⟩:=h;cases x with
 | non =>
   cases rx;cases y with
   | non=>cases ry;exact PySem.EqNone.eq_none_none ?K
   | bl j=>cases ry;exact PySem.EqNone.eq_none_bool ?K
   | int j=>ext y;exact PySem.EqNone.eq_none_int ?K
   | str j=>ext y;exact PySem.EqNone.eq_none_str ?K
   | _=>ext d2
 | bl i =>
   cases rx;cases y with
   | non=>cases ry;exact PySem.EqNone.eq_bool_none ?K
   | bl j=>cases ry;exact eq_bool (Cr I q RC)
   | str j=>ext y;exact PySem.EqMixed.eq_bool_str ?K
   | _=>ext d2
 | int i =>
   obtain⟨t,rfl⟩:=rx;cases y with
   | non=>cases ry;exact PySem.EqNone.eq_int_none ?K
   | int j=>ext y;exact eq_int (Cr I q KY)
   | str j=>ext y;exact PySem.EqMixed.eq_int_str ?K
   | _=>ext d2
 | str i =>
   obtain⟨t,rfl⟩:=rx;cases y with
   | non=>cases ry;exact PySem.EqNone.eq_str_none ?K
   | bl j=>cases ry;exact PySem.EqMixed.eq_str_bool ?K
   | int j=>ext y;exact PySem.EqMixed.eq_str_int ?K
   | str j=>ext y;exact eq_str (Cr I q kY)
   | _=>ext d2
 | byt i =>
   obtain⟨t,rfl⟩:=rx;cases y with
   | byt j=>ext y;exact PySem.W.eq_bytes (Cr I q kZ)
   | _=>ext d2
 | _=>ext U7
theorem Ij:?XB (?b9 .NotEq) rNe:=by
 intro Ad s σ H x y v u Q I rx ry h;obtain⟨hs,q⟩:=h;cases x with
 | non =>
   cases rx;cases y with
   | non=>cases ry;exact PySem.EqNone.ne_none_none ?K
   | bl j=>cases ry;exact PySem.EqNone.ne_none_bool ?K
   | int j=>ext y;exact PySem.EqNone.ne_none_int ?K
   | str j=>ext y;exact PySem.EqNone.ne_none_str ?K
   | _=>ext d2
 | bl i =>
   cases rx;cases y with
   | non=>cases ry;exact PySem.EqNone.ne_bool_none ?K
   | bl j=>cases ry;exact ?XE ne_bool RC
   | str j=>ext y;exact PySem.EqMixed.ne_bool_str ?K
   | _=>ext d2
 | int i =>
   obtain⟨t,rfl⟩:=rx;cases y with
   | non=>cases ry;exact PySem.EqNone.ne_int_none ?K
   | int j=>ext y;exact ?XE ne_int KY
   | str j=>ext y;exact PySem.EqMixed.ne_int_str ?K
   | _=>ext d2
 | str i =>
   obtain⟨t,rfl⟩:=rx;cases y with
   | non=>cases ry;exact PySem.EqNone.ne_str_none ?K
   | bl j=>cases ry;exact PySem.EqMixed.ne_str_bool ?K
   | int j=>ext y;exact PySem.EqMixed.ne_str_int ?K
   | str j=>ext y;exact ?XE ne_str kY
   | _=>ext d2
 | byt i =>
   obtain⟨t,rfl⟩:=rx;cases y with
   | byt j=>ext y;exact ?XE PySem.W.ne_bytes kZ
   | _=>ext d2
 | _=>ext U7
theorem P5:?WC (?b9 .Lt) (?n (i<j)):=?W5 uI lt_int
theorem kE:?WC (?b9 .LtE) (?n (i<=j)):=?W5 uI le_int
theorem fG:?WC (?b9 .Gt) (?n (j<i)):=?W5 uI gt_int
theorem Am5:?WC (?b9 .GtE) (?n (j<=i)):=?W5 uI ge_int
theorem yO:OpR X (?b9 .Is) (fun x y H Q=>y=?v/\?WL (?n (x=?v))):=by
 ext dZ;obtain⟨rfl,q⟩:=h;cases ry;refine is_none_gen (Cr I q ?_)
 cases x<;>first
  | (cases rx;rfl)
  | (ext gH;rfl)
theorem Bk(b:Expr){op:CmpOp}(h:?DR:=by decide)(h2:?KZ:=by decide):?oH:=by
 ext TE
 ext TC
 cases b<;>simp[behindInMarks,e1,e2]
theorem Oe{op:CmpOp}{r:R2}[?BK][?f4][?VO]:?XK (?n5 a [op] [b] pos) ?n2:=by
 ext W;exact wpAny_Compare1 (?WE u) hm
inductive RW[?j0](x:V)(H':Hp):Prop
 | mk:∀k,(x=?qO)->(Q k H')->?MO
def Ai9(t:TE):TT:=fun σ H Q=>t σ H fun x H'=>?MO
theorem Be{op:CmpOp}{r:R2}[?BK][?f4][?VO]:?ZS Ai9 ?n2:=by
 ext W
 refine ?FG (Dq ?jL fun v s1 ?kL=>Dq (?VW hb _) fun u s2 ?GM =>
  Dq (?YF _) fun c s3 ?EN=>?_) hm
 subst e;cases r3;exact qk0 ⟨H3,I3,q3⟩
inductive LH(r':R2)(tc:TE)(σ:St)(Q:VK)(y:V)(z:V)(H3:Hp):Prop
 | mk:∀k,(z=?qO)->((if ?a07 k then tc σ H3 fun w' H4=>r' y w' H4 Q else Q (?pP) H3))->?IW
def YD(r r':R2)(ta tb tc:TE):TE:=fun σ H Q=>ta σ H fun x H1=>tb σ H1 fun y H2=>r x y H2 fun z H3=>?IW
theorem pL{op op':CmpOp}{r r':R2}[?BK](ho':?XB (?b9 op') r')[?f4](hc:?XK c tc)
 (hm:lastMarks ?JM ?n0=false:=by with_unfolding_all rfl):?XK (?n5 a ?JM ?n0 pos) (YD r r' ta tb tc):=by
 ext W
 refine Compare_chain (Dq ?jL fun v s1 ?kL=>chain_link (Dq (?VW hb _) fun u s2 ?GM =>
  Dq (?YF _) fun d s3 ?EN=>?_)) hm
 subst e;cases r3;refine qk0 ?_;cases k with
 | false=>exact ite_ff ⟨?pP,H3,I3,rfl,q3⟩
 | true=>exact ite_tt (chain_last (Dq (hc Ad s3 σ H3 _ I3 q3) fun w' s4 ⟨z',H4,I4,r4,q4⟩=>ho' Ad s4 σ H4 y z' u w' Q I4 r2 r4 q4))
theorem cU:?wR<?i2:=?DG
theorem X9{x:V}[?S](r:?J3):?HY:=by
 cases r with
 | cons r1 r2=>cases r2;exact(?YO rfl r1)
theorem X8{x y:V}[?S](r:?P [x,y] us):∃u w',us=[u,w']/\?eP/\?bR y w':=by
 cases r with
 | cons r1 r2 =>
   cases r2 with
   | cons r3 r4=>cases r4;exact⟨_,_,rfl,r1,r3⟩
theorem BQ[?d4]:?XA "max" (?a00 (if j > i then j else i)):=by
 ext gF;ext TF;refine max_two_ints ?dF ?LV
 by_cases hj:j > i
 . rw[?oA,?oA];ext mG
 . rw[?q6,?q6];ext mG
theorem NR[?d4]:?XA "min" (?a00 (if j<i then j else i)):=by
 ext gF;ext TF;refine min_two_ints ?dF ?LV
 by_cases hj:j<i
 . rw[?oA,?oA];ext mG
 . rw[?q6,?q6];ext mG
universe e9
structure jQ[?d8](x dx C:Addr)(mA:?eC):Prop where
 obj:?k7 x=?c (?p5 C dx)
 ns:?xE
 ne:?t2
theorem MM[?d9]{dx:Addr}[?BT](n:?xE):∃od,?k7 dx=?c od/\?CP:=by
 obtain⟨o,es,ep,ho,hd,hk,_,hm⟩:=n;refine⟨o,ho,fun name=>?_⟩;have e:=hm ?Y;unfold nsFind findBy at e;rw[←Array.find?_toList]at e;unfold PySem.W.lookIn;rw[hd];dsimp only;split
 . rename_i y q
   rw[q]at e;exact ?KY
 . rename_i q
   rw[q]at e
   have a:?J6 (·.refKey)=false:=by
    rw[qw7];intro y hy;obtain⟨z,t,hkey⟩:=hk y (Array.mem_toList_iff.mp hy);simp[DictEntry.refKey,hkey]
   have a':¬?J6 (·.refKey)=true:=by rw[a];exact qd8
   rw[?s a'];exact ?KY
theorem jQ.look[?d9]{x dx C:Addr}[?BT](I:jQ h x dx C mA):∃od,PySem.W.InstAt h x (?p5 C dx) C (?c od)/\?CP :=
 let ⟨od,ho,hl⟩:=MM I.ns
 ⟨od,⟨I.obj,rfl,rfl,ho⟩,hl⟩
section
variable[?iY][?F][?a9][?aX][?aG]{x dx C f:Addr}[?BT]{name:Str}[?gQ]
theorem vD{expr:Bool}[?d3][?TQ][?VJ]
 (ha:?MI=?l7) (hv:?xG=?I) (hv':?C6 v=true) (h:Q v ?hT) :
 ?VZ ?bL (?v1 ?i3 ?Y expr):=by
 ext BI;exact PySem.W.get_value X J (qv2 hg).1 (PySem.W.findObj_own hh ha rfl (by rw[hl,hv])) hv' h
theorem qW[?UZ][?TQ]
 (hf:?MI=?oK) (ht:?w5) (hv:?xG=none) (h:Q (?m f,[?m x]) s) :
 ?VZ ?bL (?u8 ?i3 ?Y pl):=by
 ext BI;exact PySem.W.method_fn X J (qv2 hg).1 (qv2 hg).2 hf (qw4.mp ht) (by show(?FM).map (·.isSome)=?c ?cS;rw[hl,hv];rfl) h
theorem tP{ns:?L}[?mD](X:?kU)(I:?O2)
 (hs:?WW K) (hp:?JZ) (ht:?OM K C ?Y=?l7) [?VJ]
 (hw:?y7 mA ns) (hsz:?OX)
 (h:∀h',jQ h' x dx C (fun y=>if y=name then ?I else mA y)->?jH dx ?D h'->Q () { s with heap:=h',toks:=s.toks+2 }) :
 ?VZ ?bL (setAttr ?i3 ?Y v):=by
 ext BI;refine PySem.W.set_plain X J hs (PySem.W.osa_open (s:=?hT) (r:=none) X J hp ht ?E7);obtain⟨cd,hc,hd'⟩:=PySem.W.any_some hh;have hx:?bI x=?c ⟨?qU,?c dx,.plain,#[]⟩:=I.obj;refine ?YI qb7 (qa5 (wpAny_loadPart hx (qa5 (PySem.W.Looks.here (s:=?hT) (PySem.W.looks_clsIn X hc) ?_))));rw[hd'];refine qb7 (a:=?c dx) (?YI qb7 ?_);refine wpAny_nsSet1 (s:=?hT) I.ns fun h' hn2 hs2=>?_;obtain⟨oD,esD,epD,hoD,hdD,hcD⟩:=hn2.count (PySem.Within.cons ?Y v hw);refine qa5 (wpAny_lookBehind hoD (by rw[hdD];exact pastItsLine_dict (qa6 hcD (by rw[qd4];omega))) ?_);exact qb7 (h _ ⟨(hs2.2 _ (?jR I.ne)).trans I.obj,hn2,I.ne⟩ hs2)
theorem qE{R:?yA}[?mI][?sF](X:?kU)(hm:?M0)
 (hi:?XI "__init__"=?oK) (hf:PySem.W.typeIn K ?c4=?c (?aD "function"))
 (h:?fE ?bL (?YR vs) (?qX ?c4 ⟨?m ?b8::vs,kw⟩) (PySem.W.InitBack ?b8 R)
   ?CU) :
 ?fE ?bL A (?qX ?bE ⟨vs,kw⟩) R s:=by
 obtain⟨hh,g,d,t,os⟩:=s;exact PySem.W.make_core (PySem.W.makes_of X hm) (PySem.W.looks_findIn X hi) (fun self=>PySem.W.bind_fn X self hf) ?dP h
universe e9
def putF(f:Str)(v:V):?dU->?dU
 | []=>[(f,v)]
 | (g,x)::r=>if g=f then(g,v)::r else(g,x)::?P8
theorem As(f g:Str)(v:V):∀fs:?dU,(?vV).lookup g=if g=f then ?I else ?p2 g
 | []=>by
   show List.lookup g [(f,v)]=_;by_cases h:g=f
   . have hb:?a07 (g==f):=qw4.mpr h;simp only[List.lookup,hb,?qP]
   . have hb:?YT g f:=qk3.mpr h;simp only[List.lookup,hb,?s h]
 | ?qA=>by
   have ih:=As f g v r;ext AL
   . rw[?iA];by_cases h:g=k
     . have hb:?K4:=qw4.mpr h;simp only[List.lookup,hb,?C (h.trans hk)]
     . have hb:?QE:=qk3.mpr h;simp only[List.lookup,hb,?s (fun e:g=f=>h (e.trans hk.symm))]
   . rw[?fH];by_cases h:g=k
     . have hb:?K4:=qw4.mpr h;simp only[List.lookup,hb,?s (fun e:g=f=>hk (h.symm.trans e))]
     . have hb:?QE:=qk3.mpr h;simp only[List.lookup,hb];exact ih
theorem Vu(f:Str)(v:V):∀fs:?dU,f∈?FN (·.1)/\∀g,g∈?o2 (·.1)->g∈?FN (·.1)
 | []=>⟨?O1,fun g h=>?eW⟩
 | ?qA=>by
   obtain⟨i1,i2⟩:=Vu f v r;ext AL
   . rw[?iA];subst hk;exact⟨?Q,fun g h=>?uH⟩
   . rw[?fH];refine⟨?_,fun g h=>?_⟩
     . rw[qc5];exact qb9 _ i1
     . rw[qc5]at h ⊢;ext m9
       . exact qc0.mpr (?i e)
       . exact qb9 _ (i2 g e)
theorem Ca(f:Str)(v:V):∀fs:?dU,(?vV).length<=fs.length+1
 | []=>?O1
 | ?qA=>by
   have ih:=Ca f v r;ext AL
   . rw[?iA,qd4,qd4];omega
   . rw[?fH,qd4,qd4];omega
theorem Nq.some_of{v:V}{o:?lI}(r:Nq ?k2 o):∃u,o=?T/\?cZ:=by
 cases o with
 | none=>exact ?MR
 | some u=>exact⟨u,rfl,r⟩
theorem Nq.none_of{o:?lI}(r:Nq ?a1 o):o=none:=by
 cases o with
 | none=>rfl
 | some u=>exact ?MR
theorem MX{v:V}[?aL][?fA]:?C6 u=true:=by
 cases v with
 | non=>cases (?X5 ?zD);rfl
 | bl b=>cases (show u=?hP b from r);rfl
 | int i=>obtain⟨t,e⟩:=(?X5 ?PG);cases e;rfl
 | str x=>obtain⟨t,e⟩:=(?X5 ?EW);cases e;rfl
 | byt b=>obtain⟨t,e⟩:=(?X5 ?DJ);cases e;rfl
 | flt b=>obtain⟨t,e⟩:=(?X5 ?L8);cases e;rfl
 | ref a=>cases (?X5 ?jV);rfl
 | ty n=>cases (show u=Value.type n from r);rfl
section
variable[?sK][?e3]{h h':Heap}{a C dx:Addr}{fs fs':?dU}
theorem DB(hok:?u5)(e:H a=?nF):∃mA,jQ h a dx C mA/\(?wH)/\?y7 mA (?o2 (·.1))/\?RX/\?DK:=by
 obtain⟨d,z,ne,ob,mA,n,r,q⟩:=(show ?c6 P w H h a (?y4) from hok a _ e)
 exact⟨mA,⟨ob,n,ne⟩,r,q,z,d⟩
universe e9
structure Cls[?d][?e4]:Prop where
 pg:?wZ K C Str.empty=true
 hd:?PA
 po:?JZ
 sa:?WW K
theorem Cls.get[?aG]{C:Addr}(c:Cls K C)(f:Str):?wZ K C f=true:=c.pg
def Dn[?d][?e4](f:Str):Prop:=?XI f=?l7
theorem Dn.taker[?aG]{C:Addr}{f:Str}(n:?tW):?OM K C f=?l7:=by
 unfold PySem.W.takerIn;rw[show ?XI f=?l7 from n];rfl
structure rV[?d][?e4](m:Str)(f:Addr):Prop where
 at_:?XI m=?oK
 fn:?w5
 kp:?oJ
section
variable{X:Cx}[?O]{a C dx:Addr}{fs:?dU}{f:Str}{v:V}[?F][?a9]
theorem IU{b:Bool}[?d3][?f][?B7](n:?OF)(l:?RU)
 (h:∀u s',?VY H s'->?cZ->Q u s'):?VZ ?k (?v1 ?bG f b):=by
 obtain⟨mA,O,r,_,_,_⟩:=?vD;obtain⟨u,hu,ru⟩:=Nq.some_of (v:=v) (o:=mA f) (by rw[←l];exact r f);exact vD ?b4 O (c.get f) c.hd n hu (MX ru) (h u _ (?gA) ru)
theorem S8{m:Str}{g:Addr}[?UZ][?f][?B7](k:?F0)(l:?uY)
 (h:Q (?m g,?dX) s):?VZ ?k (?u8 ?bG m pl):=by
 obtain⟨mA,O,r,_,_,_⟩:=?vD;have hn:mA m=none:=Nq.none_of (by rw[←l];exact r m);exact qW ?b4 O (c.get m) k.at_ k.fn hn h
theorem HR{y:V}[?aL][?mD][?f][?B7](n:?OF)(hl:?GX)(ry:?jF)
 (h:∀s',?VY (upd H a (.ins C dx (?uP))) s'->?A8):?VZ ?k (setAttr ?bG f u):=by
 obtain⟨mA,O,r,wi,_,ho⟩:=?vD;have hz:(?o2 (·.1)).length<=sizeLine:=by rw[qa4,sizeLine_eq];omega
 refine tP ?b4 O c.sa c.po n.taker c.hd wi hz fun h' O' sb=>h _ ?_;have hd:∃o,?h1 dx=?r:=let ⟨o,_,_,e',_⟩:=O'.ns;⟨o,e'⟩
 refine ?zT (x:=a) (e:=dx) (by rw[e];exact True.intro) (?g ho) (fun b q hb z=>?JG z) hd ?_;refine⟨by rw[Ai O.ne];exact ho,?_,O.ne,O'.obj,_,O'.ns,fun g=>?_,fun g hg=>?_⟩
 . have:=Ca f y fs;omega
 . show Nq ((?uP).lookup g) (if g=f then ?T else mA g);rw[As];by_cases q:g=f
   . rw[?C q,?C q];exact ry
   . rw[?s q,?s q];exact r g
 . by_cases q:g=f
   . rw[q];exact(?IT).1
   . refine(?IT).2 g (wi g fun z=>hg ?_);show(if g=f then ?T else mA g)=none;rw[?s q];exact z
theorem Bo.made[?f]:Bo X Ad σ (upd (?WF ?z (.own ?b8)) ?b8 (?RZ))
 ?CU:=by
 have e1:(?l9).get? ?z=?c ?x3:=qc1 ?D rfl
 have e2:(?IC).get? ?b8=?c (?uB):=by
  have:=qc1 (?l9) (o:=?uB) rfl
  rwa [qi5]at this
 have e3:(?l9).Ns ?z (?g6):=⟨?x3,#[],_,e1,rfl,(fun e he=>?t he ?q),fun _=>rfl⟩
 have I1:=?gV (a:=s.heap.objs.size) (o:=.own ?b8) (h':=?l9) (t':=s.toks) (fun b u q=>?jD) ?aC ⟨_,e1⟩;refine ?tQ (a:=?hH) (o:=?RZ) (t':=s.toks) (fun b u q=>?jD) (ql5 (qi5 _ _)) ?_;have ne:s.heap.objs.size≠?hH:=qd1 (Nat.lt_succ_self _);refine⟨by rw[Ai ne,Ab],?lM,ne,e2,?g6,(Heap.Ns1.of_empty e3).at fun o q=>?jD,fun _=>True.intro,fun y hy=>?t rfl hy⟩
theorem VM[?iY]{env:Env}{e:Expr}{f:Str}[?a0][?aX][?d3](hb:?tJ e f env (?wV)=?wV)
 (h:?e ?bL A (?wV) (fun o s₁=>?e ?bL A (?v1 o f ?cJ) Q E ?hA) E s):?VZ ?bL (?aN (?d0 e f pos) env) :=
 Attribute_any_ h (by rw[arm_eval_Attribute,hb])
universe e9
inductive ItFld[?d](f:Str)[?j1]:Prop
 | mk:∀a C dx fs v,?cK->(?uJ)->(Cls K C)->(?tW)->(?RU)->(Q v H1)->?LZ
def Aj3[?d](ta:TE)(f:Str):TE:=?VS ta ?LZ
inductive XH[?d](f:Str)(D:Ends)(σ:St)(y:V)(x:V)(H2:Hp):Prop
 | mk:∀a C dx fs,?cK->(H2 a=?nF)->(Cls K C)->(?tW)->(?GX)->(?hF σ (upd H2 a (.ins C dx (?uP))))->?GN
def Ak4[?d](ta tv:TE)(f:Str):TS:=fun D σ H=>tv σ H fun y H1=>ta σ H1 fun x H2=>?GN
section
variable{X:Cx}{o e value:Expr}{f:Str}{pos pos' tpos:Pos}{ta tv:TE}
theorem yN(he:?XK e ta)(hb:?tJ e f ?h (?gW)=?gW):?XK (?d0 e f pos) (Aj3 X.K ta f):=by
 ext W;refine VM hb (Dq ?fM ?qL);obtain⟨x,H1,I1,rx,a,C,dx,fs,v,ex,ea,c,n,l,q⟩:=_z;subst ex;obtain rfl:?jV:=rx;exact IU I1 ea c n l fun u' s2 I2 ru=>⟨v,H1,I2,ru,q⟩
theorem YK(ha:?MW)(hv:?XK ?r4 tv)(hs:?pC ?r4 (?c (?EJ)) ?oC ?h=?qT):PS X (?qE [?EJ] ?r4 pos) (Ak4 X.K ta tv f):=by
 ext gG;refine plainObj_wpAny_Assign_Attribute (Dq (?VX hv h) fun u s1 ⟨y,H1,I1,ry,q⟩=>Dq (ha Ad s1 σ H1 _ I1 q) fun ov s2 _z=>?_) hs;obtain⟨x,H2,I2,rx,a,C,dx,fs,ex,ea,c,n,l,q2⟩:=_z;subst ex;obtain rfl:ov=?hX a:=rx;exact HR I2 ea c n l ry fun s3 I3=>⟨σ,_,I3,q2⟩
theorem WM{pl:?vN}{m:Str}{apos:Pos}{args:?g9}[?m8][?d3]{te:TE}[?gK][?f]
 (h:te σ H fun x H1=>∃a C dx fs g,x=?aB/\?uJ/\?uS/\?F0/\?uY ∧
   ∀s1,?VY H1 s1->?e ?k X.A (?pE pos (?m g) ?dX (?fQ pos (?eG ?cD ?h)) ?pF) Q ?l s1)
 (ht:?JH=(do
   let ov ←?gW
   ?vT
   let ?xL ←?vH
   ?X0 (?eG ?cD ?h))) :
 ?VQ (?JH) Q:=by
 refine ?GG;obtain⟨x,H1,I1,rx,a,C,dx,fs,g,ex,ea,c,k,l,q⟩:=_z;subst ex;obtain rfl:?jV:=rx;exact S8 I1 ea c k l (q s1 I1)
universe e9
section
variable{X:Cx}[?O][?F][?a9][?d3]{c:Value}{b:Bool}
universe e9
structure Gw(k:Nat)[?j6]:Prop where
 hd:?N8
 dp:A.depth+3*k+5<recursionLimit
 un:A.units+16*k+200<cLine
 gd:A.guards=?c []
theorem Gw.mono{j k:Nat}[?F](r:?kX)(h:j<=k):Gw j A:=⟨r.hd,?KK,?CJ,r.gd⟩
theorem Gw.deeper{k:Nat}[?F](r:?K7)(env:Env):Gw k (?o5 env) :=
 ⟨r.hd,by have:=r.dp;show ?ON+3*k+5<_;omega,by have:=r.un;show A.units+3+16*k+200<_;omega,r.gd⟩
theorem iM[?F]{C:Addr}[?S][?sF]:(?jQ).depth=?ON:=by
 ext SU
theorem fU[?F]{C:Addr}[?S][?sF]:(?jQ).guards=A.guards:=by
 ext SU
theorem IL[?F]{C:Addr}[?S][?sF]:(?jQ).units=?PH:=by
 first | rfl | simp[Around.under,Code.cUnits,Code.frames,Code.isFrame]
theorem Gw.make{k:Nat}[?F](r:?K7)[?e4][?d5](kw:?hK):Gw k (?jQ) :=
 ⟨r.hd,by have:=r.dp;rw[iM];omega,by have:=r.un;rw[IL];omega,by rw[fU];exact r.gd⟩
theorem Gw.depth{k:Nat}[?F](r:?kX):A.depth<recursionLimit:=?KK
theorem Gw.units{k:Nat}[?F](r:?kX):A.units+64<cLine:=?CJ
theorem Gw.u8{k:Nat}[?F](h:?kX):A.units+8<cLine:=by
 have:=h.units;omega
def YA:TA:=?Y5 []
def Aj7(ta:TE)(tr:TA):TA:=fun σ H Q=>ta σ H fun x H1=>tr σ H1 fun xs H2=>Q (?jZ) H2
section
variable{X:Cx}{e:Expr}[?aJ]{te:TE}{t:TA}[?a0]
theorem Af:PA X [] YA:=fun _ _ _ _ H Q I h=>Calls.spliced_nil ⟨[],H,I,?u,h⟩
theorem Aa(ha:?z2)(hr:?A6)[?AO]:PA X ?cY (Aj7 te t):=by
 intro pos Ad s σ H Q I h;rw[hs];show ?XC (spliced (?RO::?tF));refine qp2 (Dq ?jL ?qL);ext bM;exact Dq (hr pos Ad s1 σ H1 _ I1 q1) fun us s2 ⟨xs,H2,I2,r2,q2⟩=>⟨?jZ,H2,I2,?E r1 r2,q2⟩
structure Av6(Q:VK)[?a4](H1:Hp):Prop where
 mk::(left:?eA) (right:?ZN ?nR)
def A48(t:TA):TE:=?Y1 Av6
structure Av7(Q:VK)[?a4](H1:Hp):Prop where
 mk::(left:?eA) (right:?ZN ?k0)
def A52(t:TA):TE:=?Y1 Av7
theorem Fc{x1}(h:?A6):?XK (?o4 es x1 pos) (A48 t):=by
 intro Ad s σ H Q I hq;refine ?W4 wpAny_Tuple_spliced;ext U1;refine(?YD ?nR);exact⟨z,us,r,?FE⟩
theorem G8(h:?A6):?XK (.List es pos) (A52 t):=by
 intro Ad s σ H Q I hq;refine ?W4 wpAny_List_spliced;ext U1;refine(?YD ?k0);exact⟨z,us,0,r,?g7⟩
universe e9
noncomputable abbrev Sp:=?o->Hp->?W8 VK XK
noncomputable abbrev sO:=?cQ->Hp->Shared->XK->?fW
structure jR[?f6][?d][?m6][?j6][?mH][?d7](H:Hp):Prop where
 frames:A.frames=?c ?a3
 mod:Mod K mg ?aU
 bs:∀b o,base.get? b=?r->?DZ
 bsz:base.objs.size<=s.heap.objs.size
 funs:?oQ ?aU ?a3
 frf:∀b∈OD ?a3,?X
 hok:Ry P w H ?D
 bare:?O6
def CE[?mH][?f6](H:Hp)[?d7](Q:VK)[?e2][?d6]:Prop :=
 ∃v H',?t7/\?n4/\Un (OD ?a3) [] H H' ?D ?eJ/\Ry P w H' ?eJ/\?cZ/\?lG
def CR(CX:sO)[?mH][?f6](H:Hp)[?d7](Q:VK)(E:XK)(r:Result)[?d6]:Prop :=
 match r with
 | .ok (.ret u)=>?FO
 | .ok _=>False
 | .error e=>CX ?a3 H s E e s'
structure Bw[?f6][?d][?m6](CX:sO)(k:Nat)(f:Addr)(fd:FuncData)(ps:?L)(sp:Sp):Prop where
 len:?AE
 run:∀[?j6] [?mH] [?d7] (H:Hp) (args:Args) [?d5] [?e1] (Q:VK) (E:XK),?kX->?tS->?xC s fd ?cD ?jM->?fF->?k1 →
  ?fE ?g2 A (?qX ?c4 ?cD) (CR CX ?a3 P w H s Q E) s
theorem jR.make[?c7][?m7][?F]{outer:?cQ}[?aX]{H:Hp}(e:?tS)[?e4][?d5](kw:?hK) :
 jR P w K mg ?aU (?jQ) ?a3 s H:=⟨by first | exact e.frames | (simpa[Around.under,Code.envs,Code.isFrame,pushEnvs]using e.frames),e.mod,e.bs,e.bsz,e.funs,e.frf,e.hok,e.bare⟩
section
variable[?BU]{H:Hp}{s s':Shared}
theorem Bo.env0[?f]:jR ?aP X.w X.K ?eT ?dD X.A ?g0 s H :=
 ⟨I.ok.frames,I.ok.mod,I.bs,?K8,I.stack,I.stkFree,?aT,?bB⟩
theorem Bo.after{Q:VK}[?aL][?f](h:CE ?g0 ?aP X.w H s Q u s'):?NZ:=by
 obtain⟨v,H',os,bare,un,hok,r,q⟩:=h;obtain⟨hh,g,d,t,os'⟩:=s';obtain rfl:os'=s.os:=os;exact⟨v,H',I.call (h':=hh) (g':=g) (d':=d) (t':=t) (ch:=[]) un hok bare (fun b z=>?t z ?q),r,q⟩
universe e9
def tCall[?sE](t:TA):TE:=fun σ H Q=>t σ H fun vs H1=>sp ?g5 H1 Q E
inductive RY[?e4](m:Str)[?sE](t:TA)(σ:St)[?j1]:Prop
 | mk:∀a dx fs,?cK->(?uJ)->(?uY)->(t σ H1 fun vs H2=>sp (x::?g5) H2 Q E)->?P5
def JW[?e4](m:Str)[?sE](ta:TE)(t:TA):TE:=?VS ta ?P5
def VZ[?e4][?sE](t:TA):TE:=fun σ H Q=>t σ H fun vs H1=>∀x dx,H1 x=none->H1 dx=none->?t2 →
 ?WA H1
def Nt[?d](fd:FuncData)(ps:?L)(ds:?w):Prop :=
 ∀[?d7] [?d5],?kU->?DN->?xC s fd ?tD (ps.zip (us++ds))
theorem Nt.all[?aG][?BN](h:∀us:?w,?LO->?PC fd ?tD=?U ?jM):?xW:=fun s us _ hl=>by
 rw[List.append_nil]at hl ⊢;exact .of_eq (h us hl)
def Tf(CX:sO)(X:Cx)(E:XK):Prop:=∀(Ad:Bn) (σ:St) (H:Hp) [?d7] (e:Value) [?d6],?A->CX ?g0 H s E e s'->?l e s'
section
variable[?VN][?BN]{sp:Sp}{dvs:?o}{ds:?w}{E:XK}{x m:Str}{p pos apos:Pos}{e o:Expr}[?aJ]{ta:TE}{t:TA}
theorem cE[?O]{Q:VK}[?S][?fB][?iP][?mL][?m2]
 [?f] [?sW] (h:sp ?g5 H Q E):?VQ (call ?c4 us) ?bC:=by
 have r2:?P ?g5 (us++ds):=?A3 hd;have hl:?DN:=by rw[←r2.length];exact F.len _ _ _ _ h
 refine wpAny_call (codeAny_mono (F.run X.A X.stack s H ⟨us,[]⟩ (us++ds) (vs++dvs) Q E hr I.env0 (hb s us I.kIn hl) r2 h) fun r s' hq=>?_);cases r with
 | error e=>exact hx Ad σ H s e s' I hq
 | ok fl =>
   cases fl with
   | ret u=>exact I.after hq
   | next=>exact ?tX
   | brk=>exact ?tX
   | cont=>exact ?tX
theorem uF[?iP][?mL][?mQ](hm:?l5=?tP)(hk:?x5 X.K ?c4=true)[?m2]
 [?iZ] [?m3] [?lZ] (hpl:?iH (·.1)=false:=by rfl) :
 PE X ?mX (tCall sp dvs E t):=by
 ext W;refine qt4 (X1 I hg hm ?_ hdb);refine ?W0 hk;exact cE F hr hb hd hx I1 r q
theorem UD[?UG][?iP][?mL][?m2][?iZ]
 (hst:?x8:=by rfl) (hpl:?iH (·.1)=false:=by rfl)
 (ht:?ZZ (?WD o ?cY)=(do
   let ov ←?l0
   ?vT
   let ?xL ←?vH
   ?X0 (?t6)):=by rfl) :
 ?a01 ?cY t:=by
 ext W;ext SN;refine qq9 (first:=?dX) (h₀:=X.base) ?yB hm.kp (Dq (ha pos Ad s1 σ H1 _ I1 q) fun us s2 ⟨vs,H2,I2,r,q2⟩=>⟨I2.kIn,?_⟩) hst hpl;exact cE (us:=?aB::us) (vs:=?aB::vs) F hr hb hd hx I2 (?E rfl r) q2
theorem PJ[?UG][?iP][?mL][?m2]
 (ht:?ZZ (?WD o [])=(do
   let ov ←?l0
   ?vT
   let ?xL ←?vH
   ?X0 (?eG [] ?h)):=by rfl) :
 ?a01 [] YA:=by
 ext W;ext SN;exact PySem.W.callWith_K0 (first:=?dX) I1.kIn hm.kp (cE (us:=?dX) (vs:=?dX) F hr hb hd hx I1 (?E rfl ?u) q)
structure Mk[?d](C f:Addr):Prop where
 makes:?M0
 init:?XI "__init__"=?oK
 fn:?w5
 kp:?x5 K ?bE=true
theorem OX[?O]{Q:VK}[?S][?fB](M:?RE)[?iP](hr:?QD)(hb:?CD)(hd:?PP)
 (hx:?LA) [?f] [?sW]
 (h:∀x dx,?YM x->?YM dx->?t2->?WA H) :
 ?VQ (call ?bE us) ?bC:=by
 have hq:=h ?b8 ?z (?nE (?o9)) (?lL) (qd1 (Nat.lt_succ_self _));have I2:=Bo.made (C:=C) I;have r2:?P (?GZ::?g5) (?hX ?b8::(us++ds)):=?E rfl (?A3 hd)
 have hl:(?vG++ds).length=ps.length:=by
  have e:=r2.length;rw[F.len _ _ _ _ hq]at e;exact e.symm
 refine wpAny_call (qE (f:=f) ?b4 M.makes M.init (qw4.mp M.fn) (codeAny_mono (F.run _ ?g0 _ _ ⟨?vG,[]⟩ (?hX ?b8::(us++ds)) _ _ E (hr.make C us [])
  (I2.env0.make C us []) (hb _ (?vG) I2.kIn hl) r2 hq) fun r s' hq'=>?_))
 cases r with
 | error e=>exact hx Ad σ _ _ e s' I2 hq'
 | ok fl =>
   cases fl with
   | ret u =>
     obtain⟨v,H',I3,rv,ev,q3⟩:=I2.after hq';subst ev;exact⟨rv,⟨?GZ,H',I3,rfl,q3⟩⟩
   | next=>exact ?wM
   | brk=>exact ?wM
   | cont=>exact ?wM
theorem uE(M:?RE)[?iP](hr:?QD)[?mQ](hm:?l5=?c ?bE)[?m2]
 [?iZ] [?m3] [?lZ] (hpl:?iH (·.1)=false:=by rfl) :
 ?XK ?mX (VZ C sp dvs E t):=by
 ext W;refine qt4 (X1 I hg hm ?_ hdb);refine ?W0 M.kp;exact OX M F hr hb hd hx I1 r q
universe e9
section
variable[?VN]{fd:FuncData}{ps ks:?L}{sp:Sp}{E:XK}{x m:Str}{p pos apos kpos:Pos}{e o:Expr}[?aJ]{kws:?k5}{te ta:TE}{t tk:TA}{nm:?bA Str}
variable{g:?w->?w->?w}{gV:?o->?o->?o}
universe e9
structure FnScope(N P:?L)(sc:Scope):Prop where
 kind:?q1
 co:?PD
 gen:?QW
 nd:N.Nodup
 pre:N.take P.length=P
 par:?IN
 nofree:?KW
theorem bS[?s0]:?WP ?jE
 | [],_,_=>rfl
 | ?GO,m,h=>by
   unfold bindL;rw[bS ?DI];split
   . have:x≠n:=?QR
     simp[this]
   . rfl
theorem Bj{N P:?L}{sc:Scope}(h1:?q1:=by exact rfl)(h2:?PD:=by exact rfl)(h3:?QW:=by exact rfl)(h4:N.Nodup:=by ext aI)(h5:N.take P.length=P:=by exact rfl)
 (h6:?IN:=by ext aI) (h7:?KW:=by ext aI):?zQ N P sc:=⟨h1,h2,h3,h4,h5,h6,h7⟩
theorem bT[?s0]:?WP ?j9
 | [],_,_=>rfl
 | ?GO,m,h=>by
   unfold bindC;rw[bT ?DI];split
   . rfl
   . have:x≠n:=?QR
     simp[this]
theorem BS[?s0][?gQ]:∀{P:?L}[?mI]{i:Nat}[?mF],P.Nodup->?PZ->?kW->?cH x=?dQ →
 ?jE ?cH (?vB) m x=?I
 | [],_,_,_,_,h,_,_=>?eW
 | ?cP,[],_,_,_,_,h,_=>?eW
 | p::P,?pR,0,m,nd,h1,h2,hk=>by
   simp at h1 h2;subst h1;subst h2;show ?ZU ?jE p;unfold bindL;rw[bS ?JC,?iA];simp
 | p::P,?pR,i+1,m,nd,h1,h2,hk=>by
   show ?ZU ?jE x;unfold bindL;exact ?YC BS
theorem bU[?s0][?gQ]:∀{P:?L}[?mI]{i:Nat}[?mF],P.Nodup->?PZ->?kW->?cH x≠?dQ →
 ?j9 ?cH (?vB) m x=?I
 | [],_,_,_,_,h,_,_=>?eW
 | ?cP,[],_,_,_,_,h,_=>?eW
 | p::P,?pR,0,m,nd,h1,h2,hk=>by
   simp at h1 h2;subst h1;subst h2;show ?ZU ?j9 p;unfold bindC;rw[bT ?JC,?fH];simp
 | p::P,?pR,i+1,m,nd,h1,h2,hk=>by
   show ?ZU ?j9 x;unfold bindC;exact ?YC bU
def start(N:?L)[?e1]:St:=vs.map ?c++?bT (N.length-vs.length) ?a1
def jH(CX:sO)[?f6][?d][?m6](N:?L)(qual:Str)(scope:Scope)(f:Addr)(cd:Value)[?j6][?mH][?d7](H:Hp)(E:XK):Cx where
 prog:=P
 w:=w
 K:=K
 mg:=mg
 base:=base
 A:=?N2
 N:=N
 s₀:=s
 H₀:=H
 env:=?l2
 outer:=outer
 stack:=?l2::outer
 ex:=[]
 calm:=true
 fn:=fun _=>true
 pn:=[]
 xe:=fun e s'=>?e ?g2 (?N2) (leaving (?l2) e) (fun _ s''=>CX ?a3 H s E e s'') (fun e' s''=>CX ?a3 H s E e' s'') s'
theorem gO{sc:Scope}{n:Nat}{x:Str}(h:?wW):∃c,(?M1 n ?hU []).lookup x=?bF:=by
 have q:=?Q2 ?hU n [] (?i h);exact Option.isSome_iff_exists.mp q
theorem MR{CX:sO}[?c7][?m7]{N ps:?L}[?VC][?F]{outer:?cQ}{s s1:Shared}{H:Hp}{E:XK}[?S][?fB]
 (S:?FW) (hd:?N8) (e0:?tS) (hl:?GK) [?sW]
 (x:InCallC s ?z (?jE ?D8 ?jM ?g6) (?CF) (?j9 ?D8 ?jM ?g6) s1) :
 Bo (?G5) [] ?pL H s1:=by
 have hpl:ps.length<=N.length:=by have:=?dK List.length S.pre;rw[qc8]at this;omega
 obtain⟨h1,tk,rfl,hk⟩:=x.done;have noA:∀b:Addr,b ∉ (?G5).ex:=fun b z=>?DS
 refine⟨⟨e0.mod,S.kind,rfl,rfl,?cO,fun y z c h1 h2=>?_,fun y hy=>?_,fun y c _ h=>?_,fun _=>hd,Around.frames_deeper e0.frames,?g ?J8,?CG,e0.bs,e0.bsz,fun b _ _=>noA b,?CG,e0.funs,e0.frf⟩,
  rfl,e0.bare,?u2 hk,⟨_,x.toInCall.ns,fun i y v h1 h2 h3=>?_⟩,fun y c h=>⟨_,x.cell y c h⟩,?KC ?aC,fun y c h=>?_,fun p hp=>?t (show p∈([]:Bn) from hp) ?q,e0.hok.kept hk,?_⟩
 . exact name_of_addr x.apart (qn5 h1) (qn5 h2)
 . have hy:?k8 y=?aR\/?k8 y=?cI:=hy;rcases hy with hy | hy
   . exact gO hy
   . exact ?t rfl (S.nofree _ (qn5 hy))
 . exact qe2 (x.above y c (qn5 h))
 . have hi:?A9:=by
    unfold start at h2;by_cases hi:?A9
    . exact hi
    . rw[qd3 (by simpa using hi)]at h2;rw[qs8]at h2;split at h2<;>cases h2
   have ha:?kW:=by
    unfold start at h2;rw[qc6 (by simpa using hi),qa9]at h2;cases e:vs[i]? with
    | none=>rw[e]at h2;cases h2
    | some a=>rw[e]at h2;cases h2;rfl
   obtain⟨u,hu,rv⟩:=?iL ha
   have hp:ps[i]?=?lN:=by
    rw[←S.pre,List.getElem?_take_of_lt ?aF];exact h1
   have ndP:ps.Nodup:=by rw[←S.pre];exact S.nd.sublist (List.take_sublist _ _)
   refine⟨u,rv,?_⟩;rcases S.par y (qb0 hp) with k | k
   . exact ?i ⟨k,BS ndP hp hu k⟩
   . obtain⟨c,e⟩:=gO (n:=?hH) k;refine ?g ⟨?i k,c,e,?_⟩;have q:=x.cell y c e;rw[bU ndP hp hu (by show ?k8 y≠_;rw[k];decide)]at q;exact q
 . exact ?KC (qe2 (x.above y c (qn5 h)))
 . unfold start;show _=N.length;rw[qc3,qa4,qk7];omega
theorem As9{CX:sO}[?c7][?m7]{k:Nat}{f:Addr}{name qual:Str}{params:Arguments}{body:?eO}{scope:Scope}{dV kV doc pm Dp ct oc:Value}{an od:OAddr}
 {osl:R7}{N ps:?L}{sp:Sp} (lk:?WV (?ZX ct)) (hcd:?z1) (S:?FW)
 [?UX]
 (hbody:∀[?AQ],?Z7 ?dB->?k1 →
   ∃t,LG (?VU Dp) ?g1 t/\?O7) :
 Bw P w K mg ?aU CX ?hY f (?ZX ct) ps sp:=by
 refine⟨len,fun A outer s H args us vs Q E hr e0 hb r kR=>?_⟩;have hl:=len _ _ _ _ kR;have KX:?kU:=e0.mod.kin.keeps ?HO;have lim:s.heap.NoLimit:=e0.mod.nolimit.keeps ?HO
 have hkind:∀y∈ps.zip us,?k8 y.1=?dQ\/(?k8 y.1=?aR/\((?CF).lookup y.1).isSome=true):=fun⟨n,v⟩ hy=>by
  rcases S.par n (qq0 hy).1 with q | q
  . exact ?i q
  . exact ?g ⟨q,?Q2 _ _ _ (?i q)⟩
 refine codeAny_call_function hr.depth (KX _ _ lk) rfl S.co S.gen rfl (PySem.W.codeRec_of KX hcd) (hb _ _ _ _ ?_);refine wpAny_newFunctionEnv_cells S.kind hkind fun env he s1 x=>?_;subst he;refine⟨lim.keeps x.toInCall.keep,codeAny_func ?_⟩;obtain⟨t,ht,hq⟩:=hbody A ?a3 s H vs Q E (hr.deeper _) kR;have I:Bo (?VU Dp) [] ?pL H s1:=MR S hr.hd e0 hl r x;refine qk4 (ht [] s1 ?pL H _ I hq) (fun fl s' hs=>?_) fun e s' hs=>hs
 have fin:∀{σ':St}{H':Hp}{v:V}[?aL],Bo (?VU Dp) [] σ' H' s'->?cZ->?lG->?FO :=
  fun {σ' H' v u} J rv q=>⟨v,H',J.os,J.bare,J.base,J.hok,rv,q⟩
 cases fl with
 | ret u =>
   obtain⟨v,σ',H',J,rv,q⟩:=hs;exact fin J rv q
 | next =>
   obtain⟨σ',H',J,q⟩:=hs;exact fin (v:=V.non) (u:=Value.none) J rfl q
 | brk =>
   obtain⟨_,_,_,q⟩:=hs;exact ?dC q
 | cont =>
   obtain⟨_,_,_,q⟩:=hs;exact ?dC q
section
variable{X:Cx}{x:Str}{p pos:Pos}{e:Expr}[?aJ]{t:TA}{id T:String}{r:?cM}
def tCB(r:?cM)(t:TA):TE:=fun σ H Q=>t σ H fun vs H1=>r vs H1 Q
theorem Bf(hc:Fu X ?lF r)(hm:?yY)(hv:?rH=?c ?lF)[?iZ](hg:?q9:=by rfl)[?s7][?m3]
 [?lZ] (hpl:?iH (·.1)=false:=by rfl):?KA:=by
 ext W;refine ?ZC I;exact ?W2 PyProof.Rows.callWith_builtin1
theorem Ct(hc:Fu X ?uD r)[?mQ](hm:?yY)(hv:?rH=?c ?uD)[?iZ][?s7][?m3]
 [?lZ] (hpl:?iH (·.1)=false:=by rfl):?KA:=by
 ext W;refine ?ZC I;exact ?W2 qg8
universe e9
universe L2
namespace HT
open PySem PyProof.Rows
section
open PySem.SeqAt
open PySem.AutoSeq1 (wpAny_loadPart')
open PySem.MeetsSeq PySem.MeetsSeq2 PySem.MeetsSeq3
universe e9
section
variable[?iY][?F][?a9][?aX]
theorem cat_tup{t b:Addr}{vs ws:?w}[?d3](ht:?kZ ?D t ?hE)(hb:?kZ ?D b ?A7)(hv:vs≠[])
 (h1:ws=[]->Q ?qJ s) (h2:ws≠[]->Q ?h4 { s with heap:=?XV ?fK ?GS })
 (hsz:vs.length+ws.length<=sizeLine):?VZ ?bL (?g4 .Add ?qJ ?pX):=by
 obtain⟨⟨cls,dd,data,sl⟩,ho,hc,n,hd⟩:=id ht;obtain⟨⟨Au3,dd2,data2,sl2⟩,ho2,hc2,n2,hd2⟩:=id hb;ext AY;have e:vs.toArray++ws.toArray=?GS:=?Q
 by_cases hw:ws=[]
 . exact ?oF ?lC ?qB ?yI ?yW qt7 qs6 (qr8 _ _)
    (tuple_addW1 t b ?hE ?A7 n n2 dd dd2 sl sl2 (?lP) (by simp[hw])) ⟨ho,ho2,h1 hw⟩
 . refine ?oF ?lC ?qB ?yI ?yW qt7 qs6 (qr8 _ _)
    (tuple_addW2 t b ?hE ?A7 n n2 dd dd2 sl sl2 (?lP) (by simpa using hw) (by rw[qc2,qc2];exact hsz)) ?DL
   rw[e];exact h2 hw
def sIx(n d:Nat):?c2->Nat
 | none=>d
 | ?I=>?y5
theorem sIx_none(n d:Nat):sIx n d ?a1=d:=rfl
theorem sIx_nat(n d k:Nat):sIx n d (?c ?hM)=min k n:=by
 show(if ?hM<0 then(?hM+?aQ).toNat else min (k:Int).toNat n)=min k n;rw[?hL,qe3]
theorem yH(n d:Nat)(hd:d<=n)(o:?c2):sIx n d o<=n:=by
 cases o with
 | none=>exact hd
 | some v =>
   show(?y5)<=n;by_cases hv:v<0
   . rw[?C hv];omega
   . rw[?s hv];exact Nat.min_le_right _ _
theorem LB(v:Int)(n d:Nat):(if v<0 then max (v+?aQ) 0 else min v ?aQ)=((sIx n d ?k2:Nat):Int):=by
 show(if v<0 then max (v+?aQ) 0 else min v ?aQ)=(((?y5):Nat):Int)
 by_cases hv:v<0
 . simp only[?C hv];omega
 . simp only[?s hv];omega
theorem JN[?j2](n:Nat):?IV=(?qR,?S1):=by
 have h1:¬(?fY<0):=O9m
 unfold Builtin.Slice.sliceAdjust;simp only[h1,if_false];refine Prod.ext ?_ ?_
 . cases lo with
   | none=>rfl
   | some v=>exact LB v n 0
 . cases hi with
   | none=>rfl
   | some v=>exact LB v n n
theorem iB(i j:Nat):?v5 ?y2 ?xJ 1=j-i:=by
 unfold Builtin.Slice.slicePlaces;have h1:?fY > 0:=O9m
 simp only[h1,if_true,Int.ediv_one];split<;>omega
theorem Yn[?gQ]{o:?c2}{Q:?c2->?eH}(p:?pA v o)(h:Q o s):?VZ ?bL (Builtin.Slice.slicePartIndex v):=by
 cases p with
 | none=>exact ?NJ h
 | int i t=>exact slicePart_int h
theorem U8{sl:Addr}[?VL]{n:Nat}{Q:Int × Int × Nat->?eH}[?TU]
 (h:Q (?qR,1,?O4-?S6) s):?VZ ?bL (Builtin.Slice.sliceApplied ?rK (?U ?aQ)):=by
 obtain⟨os,hos,hcs,hds⟩:=id hs;unfold Builtin.Slice.sliceApplied Builtin.Slice.sliceFields;refine qa5 (qa5 (qh3 hos hds (x:=vl) rfl (qa5 (qh3 hos hds (x:=vu) rfl (qa5 (qh3 hos hds (x:=?b2) rfl (qb7 ?_)))))));refine qa5 (?NJ ?_);show ?XC (if ?a07 (?fY==0) then _ else _);rw[?s ?bH];refine qa5 (Yn pl (qa5 (Yn pu (qa5 (qb7 ?_)))));show ?XC (match ?IV with | (lo,hi)=>?U (lo,?fY,?v5 lo hi 1));rw[JN lo hi n];show ?XC (?U (?qR,?fY,?v5 ?qR ?S1 1));rw[iB];exact qb7 h
theorem pG(xs:?c3)(i k:Nat):((?eK k).filterMap ?MK).toArray=((xs.toList.drop i).take k).toArray:=by
 have e:(?MK)=?O5:=by
  funext m
  have:?MP=i+m:=O9m
  rw[this]
 rw[e];have:=pick_run xs i k;rw[List.filterMap_map]at this;have e2:((fun x=>xs[x]?) ∘ fun x=>i+x)=?O5:=rfl;rw[e2]at this;rw[this]
theorem getItem_tuple_cut{t sl:Addr}{items:?c3}[?VL][?d3](ht:?kZ ?D t ?hB)[?TU]
 (hw:¬(?cE=0/\?fL=items.size))
 (h:Q ?h4 { s with heap:=?fK { cls:=?cR,data:=?a2 (?WM ?cE).toArray } })
 (hsz:?X9 items.size):?VZ ?bL (?oP ?qJ ?rK):=by
 have KQ:sizeOk (?a2 (?WM ?cE).toArray):=by
  show(?WM ?cE).toArray.size<=sizeLine;rw[qc2,qc8,qj0,qv6];omega
 have hj:?fL<=items.size:=yH _ _ ?aC hi;obtain⟨os,hos,hcs,hds⟩:=id hs;have hTs:?yE ?rK "slice":=⟨os,hos,hcs⟩
 unfold getItem
 try with_reducible refine qn4 ?_
 first | refine qa5 (qb7 ?_) | skip
 refine qa5 (wpAny_sequenceKey ?q0 ?bH ?_)
 refine qa5 (wpAny_callSpecial?_slot (name:=Str.ofString ?QU) ?q0 qw5
  (ql0 qw5 ?q0 entry_tuple_getitem ?_ (args_tuple_getitem _ _)))
 show ?XC (Builtin.Tuple.tupleItemsOf ?qJ>>=_);refine qa5 (tupleItemsOf_ ht ?_);refine qa5 (wpAny_typeOf hTs ?_);rw[?C ?bH];refine qa5 (U8 hs pl pu ?_)
 have hno:¬(?FK):=by
  intro q;rw[qc4,qc4]at q;have q1:?PU=0:=?I7 q.1.1;have q2:?fL-?cE=items.size:=?I7 q.2;exact hw ⟨O9m,O9m⟩
 show ?XC (if ?FK then _ else _);rw[?s hno,pG]
 first
  | exact ?C5
  | exact ?W9 qa5 (qb7 (qb7 ⟨_,rfl,qb7 h⟩))
  | exact qa5 (?W9 qb7 (qb7 ⟨_,rfl,qb7 h⟩))
  | exact qa5 (?C5)
universe e9
universe HT
namespace L2
open PySem PySem.Spec PyProof.Rows
noncomputable abbrev TO:=?ZV ?yC
def PO(X:Cx)(e:?OL)(t:TO):Prop :=
 ∀[?N] (Q:?yC),?A->?g8 →
   ?VQ (evalPart e ?h) (fun u s'=>∃o H',?pK/\?pA u o/\Q o H')
def TH:TO:=?Y5 ?a1
inductive rX(Q:?yC)(x:V)(H1:Hp):Prop
 | mk:∀i,?p3->(Q (?c i) H1)->?RN
def Aj0(t:TE):TO:=?VS t ?RN
section
variable{X:Cx}[?sS]{lo hi:?OL}{tl th:TO}{pos p2:Pos}
theorem Hy:PO X ?a1 TH:=by
 ext W;rw[evalPart_none];exact qb7 ⟨?a1,H,I,?b2,h⟩
theorem F7(h:?z2):PO X (?c e) (Aj0 te):=by
 intro Ad s σ H Q I hw;rw[evalPart_some];refine Dq (?VX h hw) ?qL;ext bM;obtain⟨i,rfl,q⟩:=q1;obtain⟨t,rfl⟩:=r1;exact⟨?c i,H1,I1,?j i t,q⟩
def SlR(X:Cx)[?VB]:Prop :=
 ∀[?N] (x:V) (v vl vu:Value) [?j2] (sl:Addr) (Q:VK),?A->?dW->?IB->?F7->?CI->r x lo hi H Q →
   ∃T id,typeLookup ?uD ?QU=?U (?c ?lF)/\?yE v T/\?VQ (?oP v ?rK) ?bC
def tSl[?VB](te:TE)(tl th:TO):TE:=fun σ H Q=>te σ H fun x H1=>tl σ H1 fun l H2=>th σ H2 fun u H3=>r x l u H3 Q
theorem Fo{r:?kS}(hr:SlR X r)[?gK](hl:PO X lo tl)(hu:PO X hi th):?XK (?qS e (.Slice lo hi ?a1 p2) pos) (tSl r te tl th):=by
 ext W;refine ?N4 (Dq ?fM ?fC);ext bM;refine wpAny_Slice (Dq (?VW hl _) fun vl s2 ⟨l,H2,I2,pl,q2⟩=>Dq (hu Ad s2 σ H2 _ I2 q2) fun vu s3 _z=>?_);obtain⟨u,H3,I3,pu,q3⟩:=_z;rw[evalPart_none];refine qb7 ?_;have I4:?VY H3 ?v7:=I3.kept (t':=s3.toks) ?nJ;obtain⟨T,id,hT,ht,hg⟩:=hr Ad ?v7 σ H3 x v vl vu l u ?x1 Q I4 r1 (Heap.IsSliceOf.new ..) pl pu q3;show ?e ?k X.A (?GQ e (.Slice lo hi ?a1 p2) v (?m ?x1)) ?bC ?l ?v7;exact tail_any (ops:=[?m ?x1,v]) ht hT hg (by with_unfolding_all rfl)
def J9[?a4][?j2]:?o:=?XR ?t8
theorem W2[?a4][?j2]:(?i6).length<=xs.length:=by
 unfold J9;rw[qc8,qj0];omega
inductive XI[?d][?BD][?b5]:Prop
 | mk:∀a xs,?cK->?kB->(¬(?eE=0/\?ZL ?jS))->(?W6 (?G (?i6)))->?GY
def A66[?d]:?kS:=?YY ?GY
theorem yG:SlR X (A66 X.K):=by
 ext AV;obtain⟨a,xs,rfl,hx,hw,q⟩:=h;cases rx;obtain⟨its,r,ht,hz⟩:=?bP hx;have hlen:?ZL its.toArray.size:=by rw[qc2];exact r.length.symm
 refine⟨?eB,_,qw5.lookup,?q0,?_⟩;refine HT.getItem_tuple_cut ht hs pl pu (by rw[hlen];exact hw) ?_ (by rw[hlen];exact hz);rw[hlen];refine(?a08 ?G);exact⟨?DX,_,?XR r.drop,?tN⟩
inductive SG[?d][?c8]:Prop
 | mk:∀a b xs ys,?cK->?uO->?kB->(Ed K H b ys)->(xs≠[])->(?Y9 ys.length)->((ys=[]->Q ?bG H))->((ys≠[]->?W6 (?G (xs++ys))))->?EO
def Al6[?d]:R2:=?WG ?EO
theorem Vals.nil_iff[?cB][?S](r:?b3):us=[]↔xs=[]:=by
 cases r with
 | nil=>simp
 | cons _ _=>simp
theorem UH:?XB ?iK (Al6 X.K):=by
 ext dZ;obtain⟨a,b,xs,ys,rfl,rfl,ha,hb,hx,hz,q1,q2⟩:=h;ext T8;refine HT.cat_tup p1 p2 (fun z=>hx (r1.nil_iff.mp z)) (fun z=>⟨?aB,H,I,rfl,q1 (r2.nil_iff.mp z)⟩) (?HG) (by rw[←r1.length,←r2.length];exact hz);refine⟨?eL,_,?WO ?G (xs++ys),rfl,q2 (fun w=>z (r2.nil_iff.mpr w)) _ (?lL)⟩;exact⟨?E0,_,r1.append r2,?tN⟩
universe e9
def UX(n:Nat)(i:Int):?bA Nat:=if ?iM then(if i<n then ?c ?AB else none) else if ?yH then ?c ?IZ else none
def DZ[?gR](xs:?hN)(i:Int):?bA α:=(UX ?bO i).bind fun j=>xs[j]?
theorem kN{n:Nat}{i:Int}{j:Nat}(h:UX n i=?cX):?NT i n=?cX/\j<n/\?yH/\i<n:=by
 unfold UX at h;by_cases h0:?iM
 . rw[?C h0]at h;by_cases h1:i<n
   . rw[?C h1]at h;have e:?CZ:=qd7 h;exact⟨by rw[?y1 h0 h1,e],O9m,O9m,h1⟩
   . rw[?s h1]at h;cases h
 . rw[?s h0]at h;by_cases h1:?yH
   . rw[?C h1]at h;have e:?IZ=j:=qd7 h;exact⟨by rw[?x9 ?aF h1,e],O9m,h1,O9m⟩
   . rw[?s h1]at h;cases h
theorem lE[?gR]{xs:?hN}{i:Int}{v:α}(h:DZ xs i=?I):∃j,?P3=?cX/\xs[j]?=?I/\?uR/\-?kI<=i/\?MJ:=by
 unfold DZ at h;cases e:UX xs.length i with
 | none=>rw[e]at h;cases h
 | some j =>
   rw[e]at h;obtain⟨h1,h2,h3,h4⟩:=kN e;exact⟨j,h1,h,h2,h3,h4⟩
theorem Bm[?gR]{xs:?hN}{j:Nat}{v:α}(h:xs[j]?=?I):DZ xs ?xJ=?I:=by
 have hj:?uR:=(?eD h).1
 have e:UX ?bO ?xJ=?cX:=by
  unfold UX;rw[?C ?aF,?C ?aF];simp
 unfold DZ;rw[e];exact h
def vR(b:Expr):Prop:=∀o i,?EF b ?cS o i=operate [o,i] (?oP o i)
def IxR(X:Cx)(r:R2):Prop :=
 ∀(value slice:Expr) [?N] (x y:V) (v u:Value) (Q:VK),?A->?dW->?jF->?H0 →
   ?EF slice ?cS v u=operate [v,u] (?oP v u)->?VQ (?GQ ?r4 slice v u) ?bC
def MtR(X:Cx)(id:String)[?sB]:Prop :=
 ∀[?N] (x:V) [?a4] (v:Value) [?d5] (Q:VK),?A->?dW->?b3->?NC →
   ?LQ
section
variable{X:Cx}[?BV][?a0]
theorem Ba{r:R2}(hr:IxR X r)[?f4](hs:vR b):?XK (?qS a b pos) ?n2:=by
 ext W;exact ?N4 (Aa9 ha hb I h fun v u s2 x y H2 I2 rx ry q=>hr a b Ad s2 σ H2 x y v u Q I2 rx ry q (hs _ _))
inductive xN[?d][?c8]:Prop
 | mk:∀p xs i v,(x=?dG)->(y=?H)->(?L5)->(DZ xs i=?I)->(Q v H)->?D6
def Al4[?d]:R2:=?WG ?D6
inductive XM[?d][?c8]:Prop
 | mk:∀p xs i v,(x=?dG)->(y=?H)->(Ed K H p xs)->(DZ xs i=?I)->(Q v H)->?EI
def Al3[?d]:R2:=?WG ?EI
theorem uX:IxR X (Al4 X.K):=by
 ext SV;obtain⟨its,r,pl,hz⟩:=?dR;ext SR
 by_cases h0:?iM
 . have hj:?CZ:=by
    rw[?y1 h0 h5]at h1;exact ?mY
   exact item_listR ?hD h0 O9m (by rw[hj];simpa using ew) fin hs
 . have hj:(i+?HN).toNat=j:=by
    rw[?x9 ?aF h4]at h1;ext gN;exact ?mY
   exact ?DF (x:=w) ?RD ?M9
    (wpAny_getItem_list_neg (Q:=?I6) ?hD O9m (by rw[qc2]<;>omega) O9m (by rw[hj];simpa using ew) ?CT) hs
theorem zG:IxR X (Al3 X.K):=by
 ext SV;obtain⟨its,r,pl,hz⟩:=?fJ;ext SR
 exact ?DF (x:=w) pl.typeIs slot_tuple_getitem.lookup
  (getItem_tuple (j:=j) (Q:=?I6) pl O9m O9m (by ext gN;exact h1) (by simpa using ew) ?CT) hs
theorem iL[?sP](n j:Nat)[?e2]:?pZ (·.setIfInBounds j u) ?xR={ cls:=?aZ,data:=?a2 (its.set j u).toArray n }:=by
 simp[Obj.mapSeq]
theorem Bo.lst[?O]{p:Addr}[?cB][?f](h:?xS) :
 ∃(its:?w) (n:Nat),?i9/\?JI/\?eA:=by
 obtain⟨z,its,n,r,e⟩:=?aT p _ h;exact⟨its,n,r,e,z⟩
theorem Bo.lstUpd[?O]{p:Addr}[?gL]{its its':?w}{n n':Nat}{f:Obj->Obj}[?f](h:?xS)
 (ho:?JI) (hf:f ?xR=?M3) (r:?MX) [?BQ] (t:Nat) :
 Bo X Ad σ (?WF p ?eY) { s with heap:=?pD p f,toks:=t }:=by
 have e:(?pD p f).get? p=?c ?M3:=by
  rw[Heap.get?_update_self f ho (by rw[hf]<;>rfl),hf]
 refine ?zT (x:=p) (e:=p) (by rw[h];trivial) ?dP (fun b u hb q=>(?PN _ _ ?CW).trans q) ⟨_,e⟩ ?_;exact⟨hz,its',n',r,e⟩
inductive sD(o:V)(i:V)(v:V)(H:Hp)(Q:(?a5)):Prop
 | mk:∀p xs k j,(o=?dG)->(i=?j k)->(?xS)->(UX ?bO k=?cX)->(Q (?WF p (?x (xs.set j v))))->?QK
def Al1:V->V->V->?W8 Hp (?a5):=fun o i v H Q=>?QK
theorem Fy:Av0 X Al1:=by
 intro Ad s σ H o i v ov iv u Q I ro ri rv h;obtain⟨p,xs,k,j,rfl,rfl,hp,hj,q⟩:=h;cases ro;obtain⟨t,rfl⟩:=ri;obtain⟨its,n,r,ho,hz⟩:=I.lst hp;obtain⟨h1,h2,h3,h4⟩:=kN hj;have hl:=r.length;have hn:=cU
 have I':Bo X Ad σ (?WF p (?x (xs.set j v))) { s with heap:=?pD p (?pZ (·.setIfInBounds j u)) } :=
  I.lstUpd hp ho (iL its n j u) (r.set rv j) (by rw[qi2];exact hz) ?rM
 by_cases h0:0<=k
 . have hk:k.toNat=j:=by
    rw[?y1 h0 h4]at h1;exact ?mY
   exact PySem.W.ki_setAt ho h0 O9m (by ext gN;exact h4) (?a0C q)
 . have hk:(k+?HN).toNat=j:=by
    rw[?x9 ?aF h3]at h1;ext gN;exact ?mY
   exact PySem.W.ki_setBack ho O9m (by ext gN;exact h3) O9m (?a0C q)
theorem cA[?j2](n:Nat):(?zH).1=((?gT n 0 lo:Nat):Int)/\(?zH).2.1=((?gT n n hi:Nat):Int)/\(?zH).2.2=1:=by
 refine⟨?_,?_,rfl⟩
 . cases lo with
   | none=>simp[sliceBounds,HT.sIx]
   | some i =>
     ext T5
     . simp only[h,if_true]<;>omega
     . simp only[h,if_false]<;>omega
 . cases hi with
   | none=>simp[sliceBounds,HT.sIx]
   | some i =>
     ext T5
     . simp only[h,if_true]<;>omega
     . simp only[h,if_false]<;>omega
theorem q9[?sP][?j2]:slicePick ?J lo hi ?a1=((its.drop (?H9)).take (?gT ?x4 ?x4 hi-?H9)).toArray:=by
 obtain⟨h1,h2,h3⟩:=cA lo hi ?x2;unfold slicePick;rw[h1,h2,h3];simp only[sliceRange_one,pick_run,qc2]<;>rfl
inductive xJ[?d][?BD][?b5]:Prop
 | mk:∀a xs,?cK->(?bD)->(?W6 (?x (?i6)))->?HB
def Al0[?d]:?kS:=?YY ?HB
theorem TN:SlR X (Al0 X.K):=by
 ext AV;obtain⟨a,xs,rfl,hx,q⟩:=h;cases rx;obtain⟨its,r,ht,hz⟩:=?aY hx;have hlen:=r.length;refine⟨?dM,_,?M9,ht.isList.typeIs,?_⟩;refine wpAny_getItem_list_slice ht.isList hs pl pu ?b2 ?q ?_ (by rw[qc2]<;>omega);rw[q9,←hlen];refine(?a08 ?x);exact⟨?DX,_,0,?XR r.drop,?g7⟩
theorem DW:?XA "len" (fun xs H Q=>∃p ys,?lW/\(?yJ\/?yO)/\Q (?j ?oU) H):=by
 ext gF;ext TP;have hn:=cU;rcases hq with hq | hq
 . ext AR;exact Calls.call_len_list ?hD ?jI ?FT
 . ext B5;have hlen:=r'.length;exact len_tuple pl ?jI ?FT
theorem dW:Fu X (?aZ) (fun xs H Q=>∃p ys,?lW/\(?yJ\/?yO)/\?E9):=by
 ext gF;ext TP
 have fin:∀[?sP],?R8->?GL->∀(h':Heap) (c':Nat),(∀b o',?bI b=?c o'->?i1=?c o') →
  ?h1 ?z=?c { cls:=?aZ,dict:=none,data:=?a2 ?J c',slots:=#[] }->?WY ?h4 ?kM:=fun its r' hz h' c' kp e =>
  ⟨?eL,_,?gV (t':=s.toks) kp ?aC (show ?c6 ?aP X.w _ h' _ ?eY from⟨hz,its,c',r',e⟩),rfl,?tB⟩
 rcases hq with hq | hq
 . ext AR;obtain⟨o,ho,hc,n,hd⟩:=pl.isList;exact ?WS ?dP
 . ext B5;have hlen:=r'.length;obtain⟨o,ho,hc,n,hd⟩:=pl;exact ?WS (?g rfl)
theorem aJ:Fu X (?cR) (fun xs H Q=>∃p ys,?lW/\((?yJ/\?E4)\/(?yO/\Q ?aO H))):=by
 ext gF;obtain⟨p,ys,rfl,h⟩:=h;obtain⟨u,rfl,rx⟩:=X9 r;cases rx;rcases h with⟨hq,q⟩|⟨hq,q⟩
 . ext AR;refine call_tuple_list ?hD (fun h' kp=>?_) ?jI;have I1:?zW:=?lS (t':=s.toks) kp
   have I2:Bo X Ad σ (?WF ?EM (?G ys)) { s with heap:=?XV h'.push ?J } :=
    ?tQ (t':=s.toks) (?p0) ?aC (show ?c6 ?aP X.w _ _ _ (?G ys) from⟨hz,its,r',?tN⟩)
   exact⟨?m ?EM,_,I2,rfl,q _ (?lV ?aC)⟩
 . ext B5;exact call_tuple_same pl ⟨?dG,H,I,rfl,q⟩
def tyV[?d](T:String)(x:V)(H:Hp):Prop:=match x with
 | ?bW=>T=?jG
 | ?dN=>T=?cG
 | ?dG=>(T=?dM/\∃xs,?L5)\/(T=?eB/\∃o,?h7 p=?r/\?tY/\?zE) ∨
    (T=?qM/\((∃kvs,H p=?c (.dK kvs))\/∃kvs,H p=?c (.dT kvs)))\/(T="set"/\∃S n,H p=?c (?ID))
 | _=>False
theorem xY[?O]{T:String}{x:V}[?gQ][?f](r:?dW)(ty:tyV X.K T x H) :
 ?yE v T/\∀a,?h5->∃ob,?bI a=?c ob/\ob.dict=none:=by
 cases x with
 | str z =>
   ext f5;cases (show T=?jG from ty);exact⟨typeIs_str s z t,?N0⟩
 | int i =>
   ext f5;cases (show T=?cG from ty);exact⟨?A0 s i t,?N0⟩
 | ref p =>
   cases r;rcases ty with⟨rfl,xs,hq⟩|⟨rfl,o,hk,hc,hd⟩|⟨rfl,hk⟩|⟨rfl,S,n,hk⟩
   . obtain⟨its,_,pl,_⟩:=?dR;refine⟨?RD,?P4⟩;cases e;obtain⟨o,n,e,c,hd,_⟩:=pl;exact⟨o,e,hd⟩
   . refine⟨⟨o,?b4 p o hk,hc⟩,?P4⟩;cases e;exact⟨o,?b4 _ o hk,hd⟩
   . have z:∃o,?bI p=?r/\o.ExactDict:=by
      rcases hk with⟨kvs,hk⟩|⟨kvs,hk⟩
      . ext TO
      . ext TO
     obtain⟨o,e,ex⟩:=z;ext TI
   . obtain⟨o,_,_,_,e,ex,_⟩:=?H7;ext TI
 | _=>exact ?dC ty
structure Bn9[?d](T:String)[?sB](t:TA)(σ:St)[?j1]:Prop where
 mk::(left:tyV K T x H1) (right:t σ H1 fun xs H2=>r x xs H2 Q)
def tBM[?d](T:String)[?sB](to:TE)(t:TA):TE:=fun σ H Q=>to σ H fun x H1=>Bn9 K T r t σ Q x H1
variable{o e:Expr}[?aJ][?TN]
theorem Am1[?SW]
 [?TT]
 (hfew:(?DY
   && ?WJ 1)=true:=by rfl)
 [?V9] [?AO] (hplain:?AA (·.1)=false:=by rfl) :
 ?XK (?a05 o) (tBM X.K T r to t):=by
 ext W;refine wpAny_Call_method_late hbase hfew hline rfl (Dq (?VX ho h) ?fC);obtain⟨x,H1,I1,r1,ty,q1⟩:=_z;obtain⟨h1,h2⟩:=xY I1 r1 ty;refine⟨T,id,pa,slot,hty,h1,h2,?_⟩;have hA:=ha cpos Ad s1 σ H1 _ I1 q1;rw[hs]at hA ⊢;refine qp7 (by show(false || ?AA (·.1))=false;rw[hplain]<;>rfl) (qw8 ?_);exact Dq hA fun us s2 ⟨vs,H2,I2,r2,q2⟩=>hm Ad s2 σ H2 x vs v us Q I2 r1 r2 q2
universe e9
def MtM(X:Cx)(id:String)[?sB]:Prop :=
 ∀[?N] (x:V) [?a4] (v:Value) [?d5] (Q:VK),?A->?dW->?b3->?NC →
   ?LQ
theorem Vals.one:∀{x:V}[?S],?J3->?HY
 | _,_,?E r ?u=>?HJ
theorem Vals.eraseIdx:?ZO (?HD i) (us.eraseIdx i)
 | _,_,_,?u=>?u
 | _,_,0,?qC=>t
 | _,_,i+1,?hR=>?E r (Vals.eraseIdx i t)
theorem Vals.rep[?cB][?S](h:?b3):∀k:Nat,?P (?QL).flatten (?bT k us).flatten
 | 0=>?u
 | k+1=>by
   rw[qj3,qj3,ql4,ql4];exact ?MQ h (Vals.rep h k)
theorem BC[?gR]:∀(l:?hN) (i:Nat),(l.eraseIdx i).length<=l.length
 | [],_=>?cO
 | ?cP,0=>?o9
 | _::r,i+1=>qi7 (BC r i)
theorem BK[?sP]:∀(k:Nat) (acc:?w),
 ?zG (fun x1 x2=>x1++x2) acc.toArray (?bT k ?J)=(acc++?FX).toArray
 | 0,acc=>?Q
 | k+1,acc=>by
   have e:acc.toArray++its.toArray=(?tH).toArray:=?Q
   have e2:(?tH)++?FX=acc++(?bT ?hY its).flatten:=by
    rw[qj3,ql4,qw6]
   rw[←e2,←BK its k (?tH),←e,qj3,qq2]
section
variable{X:Cx}[?O]{l b:Addr}{xs ys zs:?o}
theorem Bo.lset{its its':?w}{n:Nat}{f:?c3->?c3}{t':Nat}[?f](hH:?iI)
 (e:?OJ) (hf:f ?J=its'.toArray) (hv:?MX) [?BQ] :
 Bo X Ad σ (?WF l ?eY) { s with heap:=?pD l (?pZ f),toks:=t' }:=by
 have q:=PySem.IsL.update e f;rw[hf]at q;refine ?zT (x:=l) (e:=l) (by rw[hH];exact trivial) ?dP (fun b' u hb hu=>(?PN ?D (?pZ f) ?CW).trans hu) ⟨_,q⟩ ?_;exact⟨hz,its',_,hv,q⟩
theorem Bo.lnew{its:?w}{t':Nat}[?f](hv:?R8)[?BQ] :
 Bo X Ad σ (?WF ?z ?eY) { s with heap:=?fK { cls:=?aZ,data:=?a2 ?J },toks:=t' } :=
 ?gV (fun _ _ q=>?jD) ?aC ⟨hz,its,0,hv,?g7⟩
theorem Bo.fresh[?f]:?uL:=?lL
theorem Bo.lstM[?f](hH:?iI):?eA/\∃(its:?w) (n:Nat),?i9/\xs.length=its.length/\?OJ:=by
 obtain⟨z,its,n,r,e⟩:=?aT l _ hH;exact⟨z,its,n,r,r.length,e⟩
theorem PU{n:Nat}(h:?IA):?G3 n=false:=by
 unfold Builtin.List.listTooLong;exact qj6 O9m
universe e9
section
variable{X:Cx}
inductive GW(x:V)[?e1][?b5]:Prop
 | mk:∀l xs y,?oG->?HI->(?iI)->(xs.length<sizeLine)->(Q ?v (?WF l (?x (xs++[y]))))->?IU
def tW:?lO:=fun x vs H Q=>?IU
theorem F8:MtM X "list.append" tW:=by
 ext B3;obtain⟨l,xs,y,rfl,rfl,hH,hz,q⟩:=h;ext B2;ext B4;refine ?lX F.slot_list_append ?jX F.entry_list_append (F.args_list_append_2 _ _) (PySem.list_append l ?J n u (by rw[qc2];omega)) ?yD;refine⟨?v,_,I.lset (its':=its++[u]) hH e ?q (?A3 (?E ru ?u)) ?_,rfl,q⟩;rw[qc3,qp1];omega
inductive LI(x:V)[?e1][?b5]:Prop
 | mk:∀l xs i k y,?oG->(vs=[?H])->(?iI)->(-(?i2)<=i)->(i<?i2)->(?P3=?c k)->(xs[k]?=?lN)->(Q y (?WF l (?x (?HD k))))->?QI
def YI:?lO:=fun x vs H Q=>?QI
theorem fQ:MtM X "list.pop" YI:=by
 ext B3;obtain⟨l,xs,i,k,y,rfl,rfl,hH,h1,h2,hk,hy,q⟩:=h;ext B2;obtain⟨t,rfl⟩:=ru;ext B4;obtain⟨w,hw,rw'⟩:=?iL hy
 refine ?lX F.slot_list_pop ?jX F.entry_list_pop (F.args_list_pop_2 _ _)
  (MeetsSeq.list_pop_at l ?J n i t k w (?LS) (by ext gN;exact hk) (by rw[←Array.getElem?_toList];exact hw) (by rw[qc2];omega)) ?yD
 refine⟨y,_,I.lset (its':=its.eraseIdx k) hH e ?_ (r.eraseIdx k) ?_,rw',q⟩
 . show its.toArray.eraseIdxIfInBounds k=(its.eraseIdx k).toArray;rw[List.eraseIdxIfInBounds_toArray]
 . have:=BC xs k;omega
inductive xK[?c8]:Prop
 | mk:∀l k xs,?oG->(y=?j k)->(?iI)->(-(?i2)<=k)->(k<?i2)->(xs.length*k.toNat<=sizeLine)->(?W6 (?x (?bT ?r2 xs).flatten))->?N5
def A67:R2:=?WG ?N5
theorem uU[?gR](xs:?hN)(k:Nat):(?QL).flatten.length=k*xs.length:=by
 induction k with
 | zero=>simp
 | succ k ih=>rw[qj3,ql4,qc3,ih,Nat.succ_mul,qx2]
theorem PN:?XB (?g4 .Mult) A67:=by
 ext dZ;obtain⟨l,k,xs,rfl,rfl,hH,h1,h2,hz,q⟩:=h;cases rx;ext mC;ext B4;have hlen:?X9 ?vX:=by ext gN;exact hz
 have hcap:¬?vX > ?MB:=by
  have:?wR<=?MB:=?QM
  omega
 have hfit:¬?a07 (!Builtin.List.listFitsIndex k):=by
  rw[?LS];exact qd8
 have Aq9:¬?G3 (?vX)=true:=by
  rw[PU hlen];exact qd8
 have hnew:?WT (if ?a07 its.toArray.isEmpty then 0 else k.toNat) ?r2:=by
  have f0:∀m:Nat,?WT m m:=fun m=>by
   have:=BK its m [];rw[qo2]at this;exact this
  rw[f0];cases its with
  | nil=>simp
  | cons a r'=>rw[?kC]
 refine wpAny_binaryOp_repeat_ref (T:=?dM) (U:=?cG) ?bH ?jX (fun s'=>?A0 s' k t) noFill_list_mul F.fills_int_mul ?F3 repeat_list F.slot_int_index.lookup
  (?lX ?F3 (?A0 s k t) F.entry_int_rmul (F.args_int_rmul_2 _ _) (int___rmul___int_list k t l ?J n)
    ⟨e,rfl,?jX,?lX F.slot_list_mul ?jX F.entry_list_mul (F.args_list_mul_2 _ _) (AutoListH.list___mul___list_int_3 l ?J n k t hfit hcap Aq9) ?yD⟩)
 rw[hnew];exact⟨?m _,_,I.lnew (t':=s.toks) (r.rep ?r2) (by rw[uU,Nat.mul_comm];exact hz),rfl,?LL⟩
universe e9
section
variable[?iY][?F][?a9][?aX]
universe e9
section
variable{X:Cx}
universe e9
universe L2
namespace Att
open PySem PySem.W PySem.Calls PyProof.Rows
theorem Xk{P:Params}[?d9]:∀[?j4] (vs:?w),WellAll P h vs (?kQ WData.int)->?nY:=by
 intro ns
 induction ns with
 | nil =>
   intro vs w;rw[qr0]at w;cases w;exact ?u
 | cons n ns ih =>
   intro vs w;rw[qc5]at w;cases w with
   | cons a b =>
     cases a;exact ?E _ _ (ih _ b)
theorem script_of{l:OpenLaw}{n:Nat}(hn:l.most=?c n){P:Params}[?d9]{args:?IL}{vals:?w}
 (hpre:l.row.toRowW.claim.pre ?cD=true) (hwl:WellAll P h vals ?cD) :
 ∃a vs ns,vals=[?hX a]/\args=[WData.list (?kQ WData.int)]/\?c0=?c ?pJ/\?nY/\?DV:=by
 have hsh:WShape.hasAll [] ?cD [.list ?j]=true:=(?Q1).1;have hc:l.pre.holds [] { args:=args }=true:=(?Q1).2;obtain⟨d,r,rfl,h1,h2⟩:=hasAllW_cons hsh;obtain rfl:=hasAllW_nil h2;obtain⟨xs,rfl,h3⟩:=hasW_list h1;obtain⟨ns,rfl⟩:=items_int h3
 have hlen:?DV:=by
  unfold OpenLaw.pre at hc
  have h4:(WTm.not (.lt (.lit (?j ?aQ)) (.len (.arg 0)))).holds [] { args:=[.list (?kQ ?j)] }=true:=by
   have h4:=(holds_andW hc).1;rw[hn]at h4;exact h4
  have h5:=condW_of h4 (w_not (w_lt w_lit (w_len_list (w_arg rfl))));rw[qa4]at h5;refine qg7 fun q=>?_;have q':?aQ<((ns.length:Nat):Int):=O9m
  first
   | (rw[qf9 q']at h5;exact ?t h5 ?bH)
   | (simp at h5;omega)
 cases hwl with
 | cons w1 w2 =>
   cases w2;cases w1 with
   | list ho hall=>exact⟨_,_,ns,rfl,rfl,ho,Xk ns _ hall,hlen⟩
theorem post_true(l:OpenLaw)(args:?IL):l.row.toRowW.claim.post ?cD ?lY ?cD=true :=
 postW_of (r:=l.row.toRowW) (X:=(true==true))
  (show WShape.has [] ?lY ?cT=true by first | rfl | decide | simp[WShape.has,WShape.arms,WShape.armsAll])
  (show(WTm.eq .res (.lit ?lY)).value [] { args:=args,res:=?c ?lY,after:=args }=?c (?cT (true==true)) from w_eq_bool (w_res rfl) w_lit) rfl
section
variable[?iY][?F][?a9][?aX]{K:Frag}
universe e9
universe Att
namespace L2
open PySem PySem.Spec PyProof.Rows
theorem aO:∀[?mI][?gM],?nY->?P ?nA vs
 | _,_,?u=>?u
 | _,_,?E n t h=>?E ⟨t,rfl⟩ (aO h)
def Ab5(H:Hp):Prop:=∀b,?X\/∃o xs,H b=?c (.frz o ?k0)
theorem qJ[?c7]{mg mb:?eC}{CX:sO}{k:Nat}{fa a:Addr}{fd:FuncData}{x:Str}{sp:Sp}{s₁:Shared}[?mI][?gM]
 (KX:K.In ?pN) (hns:?AD ?L4 mg) (hb:?AD ?EH mb) (hbb:?HR) (hlim:s₁.heap.NoLimit) (hg:s₁.gens=#[])
 (ha:?D3 a=?c ?pJ) (hi:?nY) (hl:?OX) (hr:Gw k ?vC)
 (F:∀base:Heap,?PV->?OW->Bw P w K mg ?aU CX k fa fd [x] sp) (hbind:∀[?d7] [?e2],?xC s fd ⟨[u],[]⟩ [(x,u)])
 (kR:∀H:Hp,Ab5 H->?qN->sp ?dX H (fun v _=>v=?AC) ?o0)
 (hCX:∀H e s',CX [] H ?hA (?o0) e s'->False) :
 ?KU:=by
 have rv:=aO hi;have A91:=hi.length
 have core:∀H:Hp,Ab5 H->?qN->Ry P w H ?pN->(∀b,H b≠none->b=a)->(H a≠none->?h7 a=none) →
  ?KU:=by
  intro H hO hS hok hA hK;have LD:∀[?j3],?JT->?X->(?k6).get? b=?r:=fun e n=>QS e n
  have noA:∀[?j3]{es:?i0 DictEntry}{ep:Nat},?JT->?HU->?X:=fun {b o es ep} e d=>by
   cases q:H b with
   | none=>rfl
   | some u =>
     have e':b=a:=?NR;subst e';rw[ha]at e;cases e;have d':?ME ?hE _=Data.dict es ep:=d;cases d'
  have nsK:∀{b:Addr}[?mF],?AD b m->(?k6).Ns b m:=fun {b m} ⟨o,es,ep,e,d,r⟩=>⟨o,es,ep,LD e (noA e d),d,r⟩
  have hKb:K.In (?k6):=fun b o e=>LD (KX b o e) (by
   cases q:H b with
   | none=>rfl
   | some u =>
     have e':b=a:=?NR;subst e';rw[hK (?xX)]at e;cases e)
  have hM:Mod K mg (?k6):=⟨hKb,nsK hns,⟨mb,nsK hb,hbb⟩,let ⟨mc,h1,h2⟩:=hlim;⟨mc,nsK h1,h2⟩⟩
  have e0:jR P w K mg (?k6) ?vC [] ?hA H:=⟨rfl,hM,fun b o e=>uL e,ql5 (mV _ _),trivial,fun b hb=>?t (show b∈([]:?aS) from hb) ?q,hok,.of_eq hg⟩
  refine codeAny_mono ((F _ hKb (nsK hns)).run callerA [] s₁ H ⟨[.ref a],[]⟩ [.ref a] [.ref a] _ _ hr e0 (hbind s₁ (.ref a)) (.cons rfl .nil) (kR H hO hS)) fun r s' h=>?_;cases r with
  | error e=>exact(hCX H e s' h).elim
  | ok fl =>
    cases fl with
    | next=>exact ?dC h
    | brk=>exact ?dC h
    | cont=>exact ?dC h
    | ret u =>
      obtain⟨v,H',os,bare,un,Bc4,r',q⟩:=h;have q':v=.bl true:=q;subst q';obtain rfl:u=Value.bool true:=r';refine⟨rfl,OldK.of_keep fun b o e=>?_,os,bare⟩;cases q:H b with
      | none=>exact un.keep b o e q (by intro z;exact ?DS) ?q
      | some u =>
        rcases hO b with z|⟨ob,xs,z⟩
        . rw[q]at z;cases z
        . have z2:=un.frzs b ob _ z;obtain⟨e1,_⟩:=hok b _ z;obtain⟨e2,_⟩:=Bc4 b _ z2;rw[e]at e1;cases e1;exact e2
 cases hk:K.lookup a with
 | some o =>
   have e:=KX a o hk;rw[ha]at e;cases e;refine core (?g6) (fun _=>?h8) (?g ⟨_,?hE,_,hk,rfl,rfl,rfl,by rw[qc2,A91];exact hl,?M6⟩) (fun b u z=>by have z':(none:?w7)=?T:=z;cases z') (fun b z=>?JS) fun z=>?JS
 | none =>
   refine core (fun b=>if b=a then ?c (.frz ?pJ (?x ?nA)) else none) (?E7) (?i (?g ⟨?pJ,?C rfl⟩)) (fun b u z=>?_) (fun b z=>?_) fun _=>hk
   . by_cases hb:b=a
     . exact ?g ⟨_,_,?C hb⟩
     . exact ?i (?s hb)
   . by_cases hb:b=a
     . have z':=(?C hb).symm.trans z;cases z';subst hb;exact⟨ha,by rw[qa4];exact hl,vs,_,rv,ha⟩
     . have z':=(?s hb).symm.trans z;cases z'
   . by_cases hb:b=a
     . exact hb
     . exact ?t (?s hb) z
def E8(s:Stmt)(j:Nat):Stmt:=match s with
 | .ClassDef _ _ _ ?g1 _ _ _ _ _ _ _=>body.getD j (?RY)
 | _=>?RY
def Ji(s:Stmt):Arguments:=match s with
 | ?z9 _ a _ _ _ _ _ _ _ _=>a
 | _=>{ posonlyargs:=[],args:=[],vararg:=none,kwonlyargs:=[],kw_defaults:=[],kwarg:=none,defaults:=[] }
def G6(s:Stmt):?eO:=match s with
 | ?z9 _ _ b _ _ _ _ _ _ _=>b
 | _=>[]
def Au(s:Stmt):Scope:=match s with
 | ?z9 _ _ _ _ _ _ sc _ _ _=>sc
 | _=>{ kind:=?h0,names:=[],isGenerator:=false,isCoroutine:=false }
noncomputable abbrev Ex:sO:=fun _ _ _ _ _ _=>False
noncomputable abbrev E0:XK:=?o0
theorem FE{X:Cx}:Tf Ex X E0:=fun _ _ _ _ _ _ _ h=>h.elim
structure E4[?d](x qual:Str)(st:Stmt)(f:Addr)(fd:FuncData):Prop where
 ex:∃(oc:Value) (od:OAddr) (kV doc pm:Value) (an:OAddr) (Dp ct:Value) (osl:R7),
  fd=?nH/\?WV fd/\?z1
 kp:?oJ
section
variable[?c7][?m7]
theorem E4.ok[?T2][?UX]
 (hbody:∀(Dp:Value) [?AQ],?OT->?k1 →
   ?MZ):?I1:=by
 ext TW;refine As9 lk hcd S len fun A outer s H vs Q E hr kR=>?_;obtain⟨t,h,q⟩:=hbody Dp A ?a3 s H vs Q E hr kR;exact⟨t,h.nox,q⟩
theorem E4.okZ[?T2]
 (hbody:∀(Dp:Value) [?AQ],?OT->?k1 →
   ?MZ) (len:?AE:=by intro vs H Q E h;(repeat (cases h;rename_i h));all_goals (subst_vars;rfl)):?I1:=F.ok S len hbody
theorem E4.binds[?VP][?BN](F:?JX)
 (h:∀(kV doc pm:Value) (an:OAddr) (Dp ct:Value) [?d5],?LO->?PC (?nH) ?tD=?U ?jM):?xW:=by
 ext TW;exact .all (h kV doc pm an Dp ct)
theorem DI[?VP]{oc:Value}{od an:OAddr}{osl:R7}{kV doc pm Dp ct:Value}(l:?WV (?nH))
 (c:?z1) (k:?oJ):E4 K x ?aM st f (?nH):=⟨⟨oc,od,kV,doc,pm,an,Dp,ct,osl,rfl,l,c⟩,k⟩
universe e9
section
variable{X:Cx}
theorem pv(i:Nat){x:Str}[?a0](hN:?hS:=by rfl)(hv:?nB:=by first | exact ?D0 | exact ?vU (?D0) | exact ?vU (?vU rfl))[?iQ]
 [?V5]:?GE:=YM hN hv hd hcd
universe e9
theorem ite2[?BP](h1:c->A)(h2:¬c->B):?vP:=by
 by_cases h:c
 . rw[?qP];exact h1 h
 . rw[?s h];exact h2 h
def Same(H H':Hp):Prop:=∀b o,?C7
theorem Same.refl(H:Hp):?dY H H:=fun _ _ h=>h
theorem Same.trans{H H1 H2:Hp}(a:?z7)(b:?dY H1 H2):?dY H H2:=fun c o h=>b c o (a c o h)
theorem Same.free[?e3](e:?bX){l:Addr}(h:H' l=Option.none):H l=Option.none:=by
 cases q:H l with
 | none=>rfl
 | some o =>
   rw[e l o q]at h;cases h
theorem Same.seq[?aG][?e3][?bN][?cB](e:?bX)(h:?bD):SqL K H' a xs:=by
 rcases h with(h|⟨o,h⟩) | h
 . exact ?i (?i (e _ _ h))
 . exact ?i (?g ⟨o,e _ _ h⟩)
 . exact ?g h
def AI(cells:?gB):?pB->?gB->?gB
 | [],acc=>acc
 | ?xU,acc=>AI cells r (if ?uT then(n,(?r8 n).getD 0)::acc else acc)
theorem d6{sc:Scope}{env:Env}(h:∀n,?yP->?S8):closureFor sc env=?a0H ?hU []:=by
 have all:∀(l:?pB) (acc:?gB),(∀n,?wF∈l->?S8) →
  (forIn l acc fun(x:?IP) (cs:?gB)=>match x with
    | (?Y,kind)=>if ?a07 (?Y6 kind) then(do let c ←cellOf env ?Y;?U (?nI ((?Y,c)::cs))) else ?U (?nI cs))=(?a0H l acc:Sem _):=by
  intro l
  induction l with
  | nil=>intro acc _;rfl
  | cons x r ih =>
    intro acc hl;obtain⟨n,k⟩:=x;rw[List.forIn_cons];ext B8
    . ext V7
      subst hk';obtain⟨c,hc⟩:=hl n qc9;have e1:cellOf env n=?U c:=by unfold cellOf;rw[hc]
      simp only[beq_self_eq_true,if_true,e1,pure_bind];rw[?EX];show _=(?a0H r (if ?a07 (?Y6 NameKind.free) then ?LH else acc):Sem _)
      rw[?uK,hc];rfl
    . have hk2:(?xM)=false:=?xV
      simp only[hk2,qr2,if_false,pure_bind];rw[?EX];show _=(?a0H r (if ?uT then ?LH else acc):Sem _)
      rw[?fH]
 have:=all ?hU [] h;unfold closureFor;dsimp only;rw[this,pure_bind]
theorem Hj[?VH]{c:Addr}:∀[?UY],(∀n,?wF∈l->∃c,?r8 n=?bF) →
 (acc.lookup x=?bF->?KN)->?ZJ x->?KN
 | [],_,_,ha,h=>ha h
 | ?xU,acc,hl,ha,h=>by
   refine Hj (l:=r) (?IM) ?_ h;ext B8
   . rw[?iA];ext V7
     subst hk';obtain⟨d,hd⟩:=hl n qc9;intro e;rw[qp4]at e;cases hx:x==n with
     | true =>
       rw[hx]at e;have hxn:x=n:=?mS
       subst hxn;rw[hd]at e ⊢;exact e
     | false=>rw[hx]at e;exact ha e
   . rw[?fH];exact ha
theorem d8[?VH]:∀[?UY],(?yT∈l\/∃c,acc.lookup x=?bF)->∃c,?ZJ x
 | [],_,h=>by
   rcases h with h | h
   . exact ?nO
   . exact h
 | ?xU,acc,h=>by
   refine d8 (l:=r) ?_;ext B8
   . rw[?iA];by_cases hx:?a07 (x==n)
     . exact ?g ⟨(?r8 n).getD 0,by rw[qp4,hx]⟩
     . have hx2:?YT x n:=?mS
       rcases h with h|⟨c,h⟩
       . ext m9
         . have e1:x=n:=?dK Prod.fst e;exact ?t (by simp[e1]) hx
         . exact ?i e
       . exact ?g ⟨c,by rw[qp4,hx2];exact h⟩
   . rw[?fH];rcases h with h | h
     . ext m9
       . have e2:NameKind.free=k:=?dK Prod.snd e;exact ?t (by simp[←e2]) hk
       . exact ?i e
     . exact ?g h
def F4(X:Cx)[?BS][?e4](s₀:Shared)(H₀:Hp)[?sT]:Cx where
 prog:=X.prog
 w:=X.w
 K:=X.K
 mg:=X.mg
 base:=X.base
 A:=X.A
 N:=N'
 s₀:=s₀
 H₀:=H₀
 env:=compEnvC sc (?uU) C ?h
 outer:=X.stack
 stack:=X.stack
 ex:=fp
 fn:=fun _=>false
 calm:=X.calm
 pn:=[]
 xe:=?fO
def jJ[?sG](σ:St):St:=cap.map ?MY
structure Xa(X:Cx)[?BS][?sG]:Prop where
 kind:?q1
 len:?R0
 nocell:?KE
 locals:∀x∈sc.names,?JJ
 free:∀n,?yP->?kN n=?aR\/?kN n=?cI
 slots:∀(i j:Nat) (x:Str),N'[i]?=?cL->cap[i]?=?c (?cX)->X.N[j]?=?cL/\(?LE)/\?nB
section
variable[?m1][?O]{C:Addr}[?e0]
theorem Xa.cells[?sL](ok:X.Ok):∀n,?yP->∃c,?oX n=?bF:=fun n hn=>ok.has n (c.free n hn)
theorem Ln{env:Env}{x:Str}{k:NameKind}(hnc:?KE)(h:(relabel sc env).names.lookup x=?c k)(hk:k=?q4\/k=?lH):?D2:=by
 have all:∀(l:?pB),(∀x∈l,?uG)->(l.map fun ?fT=>if (?xM&&?LR&&?LJ) then ?xN else ?fT).lookup x=?c k->?yT∈l:=by
  intro l
  induction l with
  | nil=>intro _ h;exact ?nO
  | cons p r ih =>
    intro hn h;obtain⟨n,q⟩:=p;rw[qc5,qp4]at h;by_cases hc:?a07 (?Y6 q&&?LR&&?LJ)
    . have hq:q=NameKind.free:=by
       have:=hc;simp only[qc4]at this;simpa using this.1.1
      simp only[hc,if_true]at h;cases hx:x==n with
      | true =>
        have e:x=n:=?mS
        rw[e,hq];exact qc9
      | false =>
        rw[hx]at h;ext UP
    . simp only[hc]at h;cases hx:x==n with
      | true =>
        have e:x=n:=?mS
        simp only[qr2,if_false,hx]at h;have e2:q=k:=?uH
        rcases hk with z | z
        . exact ?t (e2.trans z) (hn (n,q) qc9)
        . rw[e,←z,←e2];exact qc9
      | false =>
        simp only[qr2,if_false,hx]at h;ext UP
 exact all ?hU hnc h
theorem VH[?sL][?f](hC:?zR)[?iW][?VE]:(?DA).Ok where
 mod:=I.ok.mod
 kind:=c.kind
 glob:=I.ok.glob
 blt:=I.ok.blt
 above:=hC
 inj:=fun x y a hx hy=>?RP x y a (?X3 hx) (?X3 hy)
 has:=fun x hx=>by
  refine d8 (?i ?_);rcases hx with hx | hx
  . exact Ln ?k3 hx ?dP
  . exact Ln ?k3 hx (?g rfl)
 cab:=fun _ _ h=>?nO
 hd:=I.ok.hd
 frames:=I.ok.frames
 stk:=?h8
 exf:=fun b hb'=>⟨?Y0 (?HA) hC,fun x a e=>(?q7).2.2.2.2.1 x a (?w6)⟩
 bs:=I.bs
 bsz:=?K8
 noex:=fun b o e hb'=>by
  rcases (?q7).2.2.2.1 with z | z
  . exact ?v2 b o e z
  . exact ?WZ ?eR (qa6 ?tO z)
 exfs:=fun b hb' z=>by
  obtain⟨_,f1,f2,_⟩:=?q7;rcases ?tC with e | e
  . exact f1 e
  . exact f2 e
 funs:=I.stack
 frf:=I.stkFree
theorem rN[?sL][?f]{D:Addr}{h1:Heap}{t:Nat}(hC:C=?hH)(hD:?Z4 D)[?iW][?VE]
 (hn:h1.Ns C ?g6) (hl:?qV D=?Z3 0) (k:∀b o,?bS->?qV b=?r) :
 Bo (?DA) [] ?nL (?WF D ?fP) { s with heap:=h1,toks:=t }:=by
 have hCs:?zR:=?MU
 have hCD:C≠D:=by rw[hC,hD];exact qt5 _
 have ok:=VH (C:=C) (fp:=fp) c I hCs hf hb;have hDn:?tV:=by rw[hD];exact I.fresh
 have ltc:∀x a,(?uU).lookup x=?c a->?JF:=fun x a e=>?w6;have cel:∀a v,?pO a v->h1.IsCell a v:=fun a v ?tE=>⟨o,k a o ho,hd⟩
 have ltD:∀a v,?pO a v->a≠D:=fun a v ?tE=>by rw[hD];exact qd1 (qb2 ho)
 refine⟨ok,rfl,?bB,Un.laid k (by rw[hD];exact ?cO) hDn,(?YO hn ?HM),?NS,?_,?NS,?GP,?_,?_⟩
 . have e2':cap[i]?.map (?MY)=?xA:=by
    have:=e2;unfold jJ at this;rw[qa9]at this;exact this
   cases hc:cap[i]? with
   | none=>rw[hc]at e2';cases e2'
   | some o =>
     rw[hc]at e2';cases o with
     | none=>cases e2'
     | some j =>
       have e4:?P7=?I:=by simpa using e2'
       obtain⟨q1,q2',q3⟩:=c.slots i j x e1 hc;have q2:?D2:=q2'.elim (fun z=>Ln ?k3 z ?dP) fun z=>Ln ?k3 z (?g rfl);obtain⟨m,hm,hl'⟩:=I.loc
       have e5:σ[j]?=?xA:=by
        cases z:σ[j]? with
        | none=>rw[z]at e4;cases e4
        | some y=>rw[z]at e4;cases y with
          | none=>cases e4
          | some y'=>cases e4;rfl
       obtain⟨u,r,l⟩:=hl' j x v q1 e5 q3;refine ?NV;obtain⟨a,ha⟩:=d8 (cells:=X.env.cells) (l:=sc.names) (acc:=[]) (x:=x) (?i q2);have kd:?E3:=c.free x q2;rcases l with⟨hk,_⟩|⟨hk,a',ha',hcell⟩
       . rcases kd with z | z<;>rw[z]at hk<;>cases hk
       . have e6:a'=a:=by
          have:=ltc x a ha;rw[ha']at this;exact ?NB
         refine ?g ⟨q2',a,ha,?_⟩;rw[←e6];exact cel _ _ hcell
 . obtain⟨v,z⟩:=?EY;exact⟨v,cel a v z⟩
 . show upd H D ?fP C=none;rw[Ai hCD];exact ?nE hCs
 . show upd H D ?fP a=none;obtain⟨v,z⟩:=?EY;rw[Ai (ltD a v z)];exact ?cW x a (ltc x a e)
 . exact ?OB k (by rw[hD];exact ?cO) ⟨?lM,[],0,?u,hl⟩
 . show(?SK).length=N'.length;unfold jJ;rw[qa4,c.len]
universe e9
def vJ(UG:Scope)(N:?L)[?BS][?sG]:Bool :=
 ?n (?q1)&&?n (?R0)&&?ZG (?uG)&&?ZG (?JJ) &&
 ?ZG (x.2=NameKind.free->(?jO x.1=?aR\/?jO x.1=?cI)) &&
 (?zZ).all (fun p=>match p.2 with
   | none=>true
   | ?cX=>?n (N[j]?=?c p.1)&&?n ((?W7 ?aR) ∨
      (?W7 ?cI)) &&
     ?n (?wB=?dQ\/?wB=?aR\/?wB=?cI))
theorem lC[?m1](h:?FS):?oZ:=by
 unfold vJ at h;rw[qc4,qc4,qc4,qc4,qc4,qe5,qe5,qe5,qe5]at h;obtain⟨⟨⟨⟨⟨h1,h2⟩,h3⟩,h4⟩,h5⟩,h6⟩:=h;refine⟨qd2 h1,qd2 h2,fun x hx=>qd2 (h3 x hx),fun x hx=>qd2 (h4 x hx),fun n hn=>qd2 (h5 _ hn) rfl,fun i j x e1 e2=>?_⟩
 have hm:(x,?cX)∈?zZ:=by
  have e:(?zZ)[i]?=?c (x,?cX):=by
   rw[List.getElem?_zip_eq_some];exact⟨e1,e2⟩
  exact qb0 e
 have h7:=h6 _ hm;dsimp only at h7;rw[qc4,qc4]at h7;obtain⟨⟨h8,h9⟩,h10⟩:=h7;exact⟨qd2 h8,qd2 (p:=?LE) h9,qd2 (p:=?WI ?dQ\/?WI ?aR\/?WI ?cI) h10⟩
def PTs(X:Cx)(ifs:?g9)(t:TT):Prop :=
 ∀[?N] [?j0],?A->?g8 →
   ?e ?k X.A (forIn ifs ?cJ fun c r=>if ?a07 r then do let ok ←?yR c ?h (?ZZ c);?U (?nI ok) else ?U (?nI r)) (TP X Ad σ Q) ?l s
def lY:TT:=?Y5 ?cJ
theorem Cf{X:Cx}:PTs X [] lY:=?WQ wpAny_tests_nil ⟨H,I,h⟩
theorem Xy{X:Cx}{c:Expr}{t:TT}(h:PT X c t):PTs X [c] t:=?XN wpAny_tests_one
def Te(J:It)(g:TG)(tc:TT)(te:TE)(D:Addr)(Q:?a5)(τ:St)(H:Hp):Prop :=
 ∃W:Nat->?QH,(∃m,W 0 m [] τ H)/\∀i m ys τ H,W i m ys τ H →
   (?zB/\Q H) ∨
   (?u6/\∃N:?DE,(∀ys' τ' H',N ys' τ' H'->∃m',m'<m/\W ?aH m' ys' τ' H') ∧
     ∀x H',?JQ->g x τ H' fun τ2 H2=>tc τ2 H2 fun b H3=>if ?k4 then te τ2 H3 (?XQ τ2) else N ys τ2 H3)
section
variable[?m1][?VI][?a0][?mM]{te:TE}
theorem NO{Y:Cx}{J:It}[?e0]{it D:Addr}{tn:?qG}{R:?yA}{Q:?a5}{τ:St}{H:Hp}[?aX]
 (hx:Y.xe=?fO) (hc:?a07 Y.calm) (hg:PG Y tg g) (ht:PTs Y ifs tc) (he:PE Y elt te) (T:Wf Y.prog Y.w Y.K tg J fp it tn) (st:?PW) (hf:∀b∈fp,Rl Y [] H b) (I:Bo Y [] τ H s)
 (h:?W1 J tc) (hR:∀τ' H' s',?LM->Q H'->R (.ok .next) s') :
 ?fE (?pM Y.prog Y.w) Y.A (?FH ?e5 0 ?cV ?gU Y.env) R s:=by
 obtain⟨W,⟨m0,w0⟩,turn⟩:=h;have HJ:∀{H':Hp},?hW->∀b∈fp,Rl Y [] H' b:=fun hn b hb=>⟨hn b hb,(?k9).2⟩
 have no:∀{P:Prop}{e:Value}{s':Shared},Y.xe e s'->P:=fun z=>by rw[hx]at z;exact z.elim
 refine codeAny_loop rfl (fun n s'=>∃i ys τ' H',?LM/\?QN/\?hW/\W i n ys τ' H') ?_ m0 ⟨0,[],τ,H,I,st,?nG,w0⟩;rintro n s3 ⟨i,ys,τ3,H3,I3,st3,sS,w3⟩;show ?e _ Y.A ((compTurn ?e5 0 ?cV ?gU Y.env).onRaise (fun x=>do noteFrame x Y.env;theTreesLotGoes x)) _ _ s3;refine wpAny_noted ?_;rw[compTurn_list];refine ?YI ?y0 ?_;rcases turn i n ys τ3 H3 w3 with⟨stop,qn⟩|⟨go,N,hN,step⟩
 . refine qk4 (T.done Y rfl rfl rfl hc i [] s3 τ3 H3 (?fO) I3 ?oS st3 stop) (?q5) ?yF;obtain⟨hr,I4⟩:=_z;subst hr;exact qb7 (hR _ _ _ I4 qn)
 . refine qk4 (T.item Y rfl rfl rfl hc i [] s3 τ3 H3 (?fO) I3 ?oS st3 go) (?q5) ?yF;obtain⟨u,hr,h4⟩:=_z;subst hr;refine qa5 (qk4 h4 (?PB) ?yF);ext TD
   have again:∀{τ7:St}{H7:Hp}{ys7:?o}{s7:Shared},Bo Y ([]++?DH) τ7 H7 s7->N ys7 τ7 H7->∃m,m<n/\∃i ys τ' H',Bo Y [] τ' H' s7/\?NN/\?hW/\W i m ys τ' H':=fun {τ7 H7 ys7 s7} I7 n7=>by
    obtain⟨m',hm,w7⟩:=hN ys7 τ7 H7 n7;refine⟨m',hm,i+1,ys7,τ7,H7,?qH,?P1,?cF,w7⟩;ext T9
   refine qa5 (qk4 (hg _ s5 τ3 H5 x u _ I5' r5 (step x H5 y5)) (fun _ s6 _z=>?_) fun _ _ z=>no z);obtain⟨τ6,H6,I6,q6⟩:=_z;refine qa5 (qk4 (ht _ s6 τ6 H6 _ I6 q6) (fun ok s7 _z=>?_) fun _ _ z=>no z);obtain⟨H7,I7,q7⟩:=_z;cases ok with
   | false =>
     have q8:N ys τ6 H7:=?RH
     exact qb7 ⟨rfl,again I7 q8⟩
   | true =>
     have q8:te τ6 H7 (?XQ τ6):=?RH
     refine qa5 (qa5 (qk4 (he _ s7 τ6 H7 _ I7 q8) (fun y s8 _z=>?_) ?JW));obtain⟨v8,H8,I8,r8,hD,hl,n8⟩:=_z;refine qa5 (qk4 (F8 _ s8 τ6 H8 ?gU [v8] ?gU [y] (fun _ H9=>N (ys++[v8]) τ6 H9) I8 rfl (?E r8 ?u) ⟨D,ys,v8,rfl,rfl,hD,hl,n8⟩) (fun _ s9 _z=>?_) ?JW);obtain⟨_,H9,I9,_,n9⟩:=_z;exact qb7 (qb7 ⟨rfl,again I9 n9⟩)
theorem c9[?O]{J:It}[?e0]{it:Addr}{tn:?qG}{RR:?aA->Addr->?yA}{Q:Addr->?a5}[?a9]
 [?sL] [?d4] [?SO]
 [?f] (T:?P0) (st:?PW) [?iW]
 (h:∀D,?tV->Te J g tc te D (Q D) ?nL (?WF D ?fP))
 (hR:∀D C s' H' m',?tV->?zR->?t7->?n4->?ZD fp ?eJ->?LB->s'.heap.Ns C m'->H' C=none->C ∉ fp->Q D H'->RR ?gU C (.ok .next) s') :
 ?e ?k X.A (newList []) (fun acc s₃=>?e ?k X.A (newFunctionEnv sc X.env.globals (?uU) [] X.env.qual ?a1 ?b2 (?c ?h)) (fun cenv s₄ =>
  ?fE ?k X.A (.compStart ?e5 0 ?cV acc { cenv with scope:=?yQ }) (RR acc cenv.locals) s₄) E s₃) E s:=by
 have hb:?KR:=fun b hb=>by
  obtain⟨o,e,_⟩:=T.obj _ _ st b hb;ext b6
 refine ql9 (wpAny_newFunctionEnv ?k3 (by intro y hy;simp at hy) (fun h₁ zM uZ=>?_) ?zJ);dsimp only at zM uZ ⊢;generalize hH2:?fK { cls:=?aZ,dict:=none,data:=?a2 ([]:?w).toArray }=H2 at zM uZ ⊢;have hC:H2.objs.size=?hH:=by rw[←hH2,qi5]
 have hCl:?XG H2.objs.size:=?MU
 have hCn:s.heap.objs.size≠H2.objs.size:=by rw[hC];exact(qt5 _).symm
 have old:∀b o,?bS->?MS b=?r:=fun b o e=>by
  have l1:=qb2 e;exact ?DU b o (?Y0 l1 hCl) (qa7 _ (hH2▸ ?jJ))
 have hl:?MS ?z=?Z3 0:=?DU _ _ hCn (qa7 _ (hH2▸ ?g7));have Bc6:h₁.Ns ?zX ?g6:=by simpa using zM
 have I4:Bo (?nM) [] ?nL (?WF ?z ?fP) ?H4:=rN c I hC rfl hf hb Bc6 hl old;have hfr:?uL:=I.fresh
 have f4:∀b∈fp,Rl (?nM) [] (?WF ?z ?fP) b:=fun b hb'=>by
  obtain⟨f0,f1,f2,f3,f4,f5⟩:=?q7;have lb:=?HA;refine⟨by rw[?wY];exact f0,(?Y0 lb hCl:b≠H2.objs.size),?HG,?i hb',fun x a e=>f4 x a (?w6),?GP⟩;rcases ?tC with e | e
  . exact f1 e
  . exact f2 e
 have st4:tn 0 h₁:=T.keep _ _ _ st fun b _ o e=>old b o e
 have loop:∀s₅:Shared,s₅=?H4 →
  ?fE ?k X.A (?FH ?e5 0 ?cV ?h4 (?nM).env) (RR ?h4 ?zX) s₅:=by
  rintro s₅ rfl;refine NO (Y:=?nM) (J:=J) (fp:=fp) (tn:=tn) (Q:=Q ?z) rfl hc (hg _ _ _ _) (ht _ _ _ _) (he _ _ _ _) T st4 f4 I4 (h _ hfr) fun τ' H' s' I' q'=>?_;obtain⟨m',hn',_⟩:=I'.loc;exact hR _ _ s' H' m' hfr hCl I'.os I'.bare I'.base I'.hok hn' I'.free (fun z=>?WZ (hb _ z) hCl) q'
 exact codeAny_compStart_list (loop _ rfl) (T.self _ 0 _ _ _ st4 (loop _ rfl))
def wA(wi:TI)[?sG](g:TG)(tc:TT)(te:TE):TE:=fun σ H Q=>wi σ H fun J H1=>∀D,H1 D=none->Te J g tc te D (fun H'=>?I4) ?nL (upd H1 D ?fP)
theorem Bo.fpCh{Ad:Bn}{H:Hp}[?e0][?iW]:∀b∈fp,?RL :=
 fun b hb=>let ⟨_,f1,_,f3,f4,f5⟩:=?k9;⟨f3,f1,f4,f5⟩
theorem Cd{wi:TI}[?d4][?U5](hg:?R4)(ht:?L7)
 (he:?RR) [?AU]:?XK ?e5 (wA wi cap g tc te):=by
 ext W;have c:?oZ:=lC hcap;rw[eval_ListComp];refine ?R3 (use:=none) rfl hs ?FQ ?zJ ?PJ (?VV h);ext U2;refine c9 (RR:=?Z5 ?a1 ?bC) (Q:=fun D H'=>?I4) c hc hg ht he I2 T st2 f2 hW ?_;intro D C s' H' m' hD hC hos hbare hun hok hn hHC hCf q;refine⟨m',hn,fun h' Pa=>?_⟩;ext SS;have I4:Bo X Ad σ H' { s' with heap:=h' }:=I3.turned (t':=s'.toks) (fun b o hb e=>(?cN b hb).trans e) hHC k1 k3 k4 k5;exact⟨?m D,H',I4,rfl,q⟩
theorem cF{wi:TI}[?f9]{px spos:Pos}(hN:X.N.Nodup)(hi':?hS)(hx:?v0)[?d4][?U5]
 [?SO]
 (hsw:?pC ?e5 (?c (?i7)) spos.line ?h=?U ?cJ:=by rfl)
 [?AU] [?gC] :
 PS X (?qE [?i7] ?e5 spos) (tL (wA wi cap g tc te) ?w4):=by
 ext gG;have c:?oZ:=lC hcap;rw[exec_Assign_Name_used _ _ _ _ hsw];refine ?YI ?y0 ?_;show ?e _ X.A (do let _ ←comprehension ?e5 sc ?h _ (newList []) ?cS (?ZZ iter) (?a0F ?h)) _ _ s
 refine qa5 (Dq (?R3 (use:=?a0F ?h) (Q:=?KJ) rfl hs ?FQ ?zJ ?PJ
  (?VV h)) fun _ s' hq=>qb7 (qb7 hq))
 ext U2;refine c9 (RR:=?Z5 (?a0F ?h) (?KJ)) (Q:=fun A H'=>bK i (?m A) σ H' ?hF) c hc hg ht he I2 T st2 f2 hW ?_;intro A C s' H' m' hD hC hos hbare hun hok hn hHC hCf q;ext SS;show ?e _ X.A (?e7 (?i7) ?h (?m A)) _ _ s';refine ?GV (aQ I3 hN hi' hx (v:=?m A) rfl (fun s'' I'' _z=>?_) hf);obtain⟨a,Pa,ha⟩:=_z
 have hCa:C≠a:=by
  rcases ha with z | z
  . rw[z];exact k1
  . exact fun z'=>k4 x a z z'.symm
 refine⟨m',?IY Pa hCa,fun h' Bb6=>?_⟩;have I4:Bo X Ad (σ.set i (?c (?m A))) H' { s'' with heap:=h' }:=I''.turned (t':=s''.toks) (fun b o hb e=>(Bb6.2 b hb).trans e) hHC k1 k3 k4 k5;exact⟨_,H',I4,q⟩
universe e9
section
variable[?mM][?iR]
theorem BP[?f3][?f0][?AX]
 [?SM]
 [?m4]:?W1 ?nU tc:=by
 ext AJ;ext BA;have q:=?OV;ext iV
 . ext AG;ext s8;exact ?LG
 . ext iX
   ext U3
theorem RM[?f3][?f0][?UF]
 [?SM]
 [?m4]:?W1 ?q2 tc:=by
 ext AJ;ext BA;have q:=?OV;ext iV
 . ext AG;ext s8;exact ?LG
 . ext iX
   ext U3
theorem jI{lo:Int}{n:Nat}[?f0]
 (hs:?Y8 ?v6)
 [?VF]:?W1 (?gS) tc:=by
 refine⟨fun i m ys τ H=>m=n-i/\i<=n/\?dI,?wA,?_⟩;ext BA;by_cases hlt:i<n
 . refine ?XT hlt ?L2;obtain⟨e,y⟩:=y;subst e y;exact hs i ys τ _ hlt p
 . have e:i=n:=O9m
   subst e;exact ?X7 ?cO ?SJ
universe e9
universe L2
namespace L2
open PySem PySem.Spec PyProof.Rows PySem.SeqAt
inductive D where
 | non | bl (b:Bool) | int (i:Int) | str (x:Str) | tup [?mO] | lst [?mO]
mutual
def Rep[?d](H:Hp):?W8 V D
 | v,?v=>v=?v
 | v,?bQ=>v=?bQ
 | v,?H=>v=?H
 | v,?e8=>v=?e8
 | v,?fZ=>∃a vs,?h5/\Ed K H a vs/\?eV
 | v,?l4=>∃a vs,?h5/\?Y3 a vs/\?eV
 def Reps[?d](H:Hp):?W8 ?o ?aE
 | vs,[]=>?n7
 | vs,?fU=>∃v r,vs=v::r/\?e9/\?YS r ds
end
mutual
def zI:?t1
 | ?oT=>false
 | ?fZ=>?yN
 | _=>true
def imms:?J5
 | []=>true
 | ?fU=>zI d&&?yN
 end
mutual
def dep:D->Nat
 | ?l4=>?dS+1
 | ?fZ=>?dS+1
 | _=>0
def deps:?aE->Nat
 | []=>0
 | ?fU=>max (dep d) (?dS)
end
mutual
def eqD:D->?t1
 | ?v,?v=>true
 | .bl a,?bQ=>a==b
 | .bl a,?jN=>(if a then 1 else 0)==b
 | ?j a,?bQ=>a==(if b then 1 else 0)
 | ?j a,?jN=>a==b
 | ?dJ a,?dJ b=>a==b
 | ?G a,?G b=>?jT
 | ?x a,?x b=>?jT
 | _,_=>false
def eqDs:?aE->?J5
 | [],[]=>true
 | a::r,b::q=>eqD a b&&eqDs r q
 | _,_=>false
end
mutual
theorem a8(d:D):eqD d d=true:=by
 cases d with
 | non=>rfl
 | bl b=>simp[eqD]
 | int b=>simp[eqD]
 | str b=>simp[eqD]
 | tup ds=>simp only[eqD];exact ?uV ds
 | lst ds=>simp only[eqD];exact ?uV ds
theorem eqDs_refl[?mO]:eqDs ds ds=true:=by
 cases ds with
 | nil=>rfl
 | cons d r=>simp only[eqDs,qc4];exact⟨a8 d,?uV r⟩
end
theorem eqDs_len:∀{a b:?aE},?a07 ?jT->?rJ
 | [],[],_=>rfl
 | [],?cP,h=>?N3
 | ?cP,[],h=>?N3
 | x::a,y::b,h=>by
   simp only[eqDs,qc4]at h;rw[qd4,qd4,?NX h.2]
theorem Z9:∀(a b:?aE),?rJ->?jT=(?eK a.length).all fun j=>match a[j]?,b[j]? with | ?cL,?lN=>eqD x y | _,_=>true
 | [],[],_=>by simp[eqDs]
 | [],?cP,h=>?eW
 | ?cP,[],h=>?eW
 | x::a,y::b,h=>by
   have h':?rJ:=?uH
   rw[qd4,List.range_succ_eq_map,List.all_cons,List.all_map];simp only[eqDs,Z9 a b h']
   congr 1
structure Ux(H H':Hp):Prop where
 tup:?rF
 frz:?vQ
section
variable[?aG]{H H' H1 H2:Hp}{a l p:Addr}[?cB]{o:HO}
theorem Same.t[?sY]:?lA:=⟨fun b xs h=>x b _ h,fun b o u h=>x b _ h⟩
theorem Ux.lst(h:?iI):Ux H (?WF l o):=⟨fun b ys e=>?LF,fun b ob u e=>?LF⟩
theorem Same.new(h:?p1):?dY H (?WF l o):=fun b u e=>by rw[Ai (Ao e h)];exact e
theorem Same.turn(x:?z7)(h:?p1):?dY H (upd H1 l o):=fun b u e=>by rw[Ai (Ao e h)];exact x b u e
theorem Ed.t(x:?lA)(h:?dH):?RV:=by
 rcases h with(h|⟨o,h⟩) | h
 . exact ?i (?i (x.tup _ _ h))
 . exact ?i (?g ⟨o,x.frz _ _ _ h⟩)
 . exact ?g h
theorem Same.seqT[?sY](h:?dH):?RV:=h.t x.t
mutual
theorem Rep.t(x:?lA){v:V}{d:D}(hi:zI d=true)(h:?e9):?C1:=by
 cases d with
 | non=>exact h
 | bl b=>exact h
 | int i=>exact h
 | str x=>exact h
 | tup ds =>
   ext sA;exact⟨a,vs,e,q.t x,Reps.t x (by simpa[zI]using hi) r⟩
 | lst ds=>simp[zI]at hi
theorem Reps.t(x:?lA)[?gI](hi:?a07 ?yN)[?BX]:?OH:=by
 cases ds with
 | nil=>exact h
 | cons d r =>
   obtain⟨v,q,e,h1,h2⟩:=h;simp only[imms,qc4]at hi;exact⟨v,q,e,Rep.t x hi.1 h1,Reps.t x hi.2 h2⟩
end
mutual
theorem Rep.same[?sY]{v:V}{d:D}(h:?e9):?C1:=by
 cases d with
 | non=>exact h
 | bl b=>exact h
 | int i=>exact h
 | str x=>exact h
 | tup ds =>
   ext sA;exact⟨a,vs,e,x.seqT q,?z4 x r⟩
 | lst ds =>
   ext sA;exact⟨a,vs,e,x.seq q,?z4 x r⟩
theorem Reps.same[?sY][?gI][?BX]:?OH:=by
 cases ds with
 | nil=>exact h
 | cons d r =>
   obtain⟨v,q,e,h1,h2⟩:=h;exact⟨v,q,e,?ML x h1,?z4 x h2⟩
end
theorem Reps.length:∀[?gI],?eV->vs.length=ds.length
 | vs,[],h=>by ext BL;rfl
 | vs,?fU,h=>by
   obtain⟨v,r,rfl,_,h2⟩:=h;rw[qd4,qd4,Reps.length h2]
theorem Reps.get:∀[?gI]{i:Nat}{d:D},?eV->?zI->∃v,?kW/\?e9
 | vs,[],i,d,h,e=>?NE
 | vs,?y3,0,d,h,e=>by
   obtain⟨v,r,rfl,h1,_⟩:=h;simp only[qs9,Option.some.injEq]at e;subst e;exact⟨v,?Q,h1⟩
 | vs,?y3,i+1,d,h,e=>by
   obtain⟨v,r,rfl,_,h2⟩:=h;obtain⟨u,e1,e2⟩:=Reps.get (i:=i) h2 (?wT);exact⟨u,by simpa using e1,e2⟩
theorem Reps.getV:∀[?gI]{i:Nat}{v:V},?eV->?kW->∃d,?zI/\?e9:=fun {vs ds i v} h e=>by
 have hl:=h.length;have hi:?A9:=(?eD e).1;obtain⟨d,hd⟩:∃d,?zI:=⟨ds[i]' ?hV,?bV⟩
 obtain⟨u,e1,e2⟩:=h.get hd;rw[e]at e1;cases e1;exact⟨d,hd,e2⟩
theorem Reps.append:∀{vs ws:?o}{ds es:?aE},?eV->?YS ws es->?YS (vs++ws) (ds++es)
 | vs,ws,[],es,h,h'=>by ext BL;exact h'
 | vs,ws,?fU,es,h,h'=>by
   obtain⟨v,r,rfl,h1,h2⟩:=h;exact⟨v,r++ws,rfl,h1,Reps.append h2 h'⟩
theorem Reps.one{v:V}{d:D}(h:?e9):?YS [v] [d]:=⟨v,[],rfl,h,rfl⟩
theorem Reps.snoc[?gI]{v:V}{d:D}[?BX](h':?e9):?YS (vs++[v]) (ds++[d]):=h.append (.one h')
theorem Reps.take:∀[?gI] (n:Nat),?eV->?YS (vs.take n) (ds.take n)
 | vs,ds,0,h=>by simp[Reps]
 | vs,[],n+1,h=>by ext BL;simp[Reps]
 | vs,?fU,n+1,h=>by
   obtain⟨v,r,rfl,h1,h2⟩:=h;exact⟨v,r.take n,rfl,h1,Reps.take n h2⟩
def Fe[?j4]:?aE:=?kQ D.int
noncomputable abbrev tI[?j4]:D:=?G ?hG
theorem BG:∀ns:?B,imms ?hG=true
 | []=>rfl
 | n::ns=>by show ?a07 (zI (?nT)&&imms ?hG);rw[BG ns];rfl
theorem QO[?j4]:zI (tI ns)=true:=BG ns
theorem Zz:∀xs:Aq,imms ?eQ=true
 | []=>rfl
 | ?jZ=>by show ?a07 (zI (tI x)&&imms ?eQ);rw[Zz xs,QO];rfl
theorem bM:∀a b:?B,?MT=?wX
 | [],[]=>?uE
 | [],?cP=>?uE
 | ?cP,[]=>?uE
 | x::a,y::b=>by
   show(eqD (?j x) (?j y)&&?MT)=_;rw[bM a b];simp only[eqD];by_cases e:x=y
   . subst e;by_cases e2:a=b<;>simp[e2]
   . simp[e]
theorem QY(a b:?B):eqD (tI a) (tI b)=?wX:=by simp only[eqD];exact bM a b
theorem Iw:∀[?fB][?gM],?YS vs ?hG↔vs=?t3
 | vs,[]=>Iff.rfl
 | vs,n::ns=>by
   constructor
   . rintro ⟨v,r,rfl,h1,h2⟩;have GY:v=?nT:=h1;rw[GY,Iw.mp h2];rfl
   . rintro rfl;exact⟨?nT,?t3,rfl,rfl,?QJ⟩
universe e9
section
variable{X:Cx}[?O]
theorem kH[?f][?bN][?gL][?BY](h':?S3):False:=by
 obtain⟨its,r,⟨o,e,c,n,d⟩,_⟩:=?bP h;obtain⟨its',r',⟨o',n',e',c',_,d'⟩,_⟩:=?aY h';rw[e]at e';cases e';rw[c]at c';have z:(?eB:String)=?dM:=by injection c'
 exact ?t z ?bH
mutual
theorem Rep.inj[?f]{v:V}{d e:D}(h:Rep X.K H v d)(h':?tR):d=e:=by
 cases d with
 | non=>cases (show v=?v from h);cases e<;>first | rfl | (exfalso;first | (cases (show V.non=_ from h')) | ext rY)
 | bl b=>cases (show v=?bQ from h);cases e<;>first | (cases (?WN V.bl);rfl) | (exfalso;first | (cases (?WN V.bl)) | ext rY)
 | int b=>cases (show v=?jN from h);cases e<;>first | (cases (?WN ?c1);rfl) | (exfalso;first | (cases (?WN ?c1)) | ext rY)
 | str b=>cases (show v=?dJ b from h);cases e<;>first | (cases (?WN V.str);rfl) | (exfalso;first | (cases (?WN V.str)) | ext rY)
 | tup ds =>
   obtain⟨a,vs,rfl,q,r⟩:=h;cases e with
   | tup es =>
     ext rX;have e1:=?JN q q';subst e1;rw[?FC]
   | lst es =>
     ext rX;exact(kH I q q').elim
   | non=>ext f2
   | bl _=>ext f2
   | int _=>ext f2
   | str _=>ext f2
 | lst ds =>
   obtain⟨a,vs,rfl,q,r⟩:=h;cases e with
   | lst es =>
     ext rX;have e1:=?rL q q';subst e1;rw[?FC]
   | tup es =>
     ext rX;exact(kH I q' q).elim
   | non=>ext f2
   | bl _=>ext f2
   | int _=>ext f2
   | str _=>ext f2
 theorem Reps.inj[?f][?fB]{ds es:?aE}(h:?jY)(h':?V X.K H vs es):ds=es:=by
 cases ds with
 | nil =>
   cases (show vs=[] from h);cases es with
   | nil=>rfl
   | cons e es=>ext m5
 | cons d ds =>
   obtain⟨v,r,rfl,h1,h2⟩:=h;cases es with
   | nil=>cases (show v::r=[] from h')
   | cons e es =>
     obtain⟨v',r',z,GY,h2'⟩:=h';cases z;rw[?yG I h1 GY,?HX I h2 h2']
end
def EqD(X:Cx)(H:Hp)[?d7](d:D):Prop:=∀[?j6] (x y:V) (u v:Value) (e:D),A.units+dep d<cLine->?wL->Rep X.K H y e->?eP->?bR y v->RcAt A s u v ?G4/\EqAt A s u v ?G4
theorem OS[?f]{ds es:?aE}{vs ws:?o}{us us':?w}[?F](hu:?NQ)(r:?jY)(r':?V X.K H ws es)(rv:?fF)(WC:?P ws us')
 (ih:?C8) (hdm:∀d∈ds,?H6):∀j (h1:j<us.toArray.size) (h2:j<us'.toArray.size),EqAt A s ?HE ?EL (match ds[j]?,es[j]? with | ?cL,?lN=>eqD x y | _,_=>true):=by
 intro j h1 h2;ext AM;have GY:j<us.length:=?oB
 have h2':j<us'.length:=?wD
 have e1:ds[j]?=?c (?I9):=?bV
 have e2:es[j]?=?c (es[j]' ?hV):=?bV
 obtain⟨v,ev,rd⟩:=?iL e1;obtain⟨w,ew,re⟩:=r'.get e2;obtain⟨u,eu,ru⟩:=?lD ev;obtain⟨u',eu',ru'⟩:=WC.get ew
 have f1:?HE=u:=by
  have:us[j]?=?c us[j]:=?Q
  rw[eu]at this;have:=?uN;ext f7
 have f2:?EL=u':=by
  have:us'[j]?=?c us'[j]:=?Q
  rw[eu']at this;have:=?uN;ext f7
 rw[f1,f2,e1,e2];have hm:?I9∈ds:=qe0 _;exact(ih _ hm A v w u u' _ (by have:=hdm _ hm;omega) rd re ru ru').2
theorem X4:∀{ds:?aE}{d:D},d∈ds->?H6
 | ?y3,d,h=>by
   simp only[deps];rcases ?fI h with rfl | h
   . omega
   . have:=X4 h;omega
theorem aY{a b:?aE}(h:¬?rJ):?jT=false:=by
 cases q:eqDs a b with
 | false=>rfl
 | true=>exact ?t (?NX q) h
mutual
theorem qZ[?f](d:D):?C4:=by
 intro A x y u v e hu hx hy rx ry;cases d with
 | non =>
   cases (show x=.non from hx);cases (show u=Value.none from rx);cases e with
   | non=>ext iO;exact⟨.none_none,?y6⟩
   | bl b=>ext iN;exact⟨.none_bool b,.none_bool b⟩
   | int i=>ext iT;ext mC;exact⟨.none_int i t,.none_int i t⟩
   | str z=>ext iU;ext mC;exact⟨.none_str z t,.none_str z t⟩
   | tup es=>ext f1;ext rZ;exact⟨?H8,?H8⟩
   | lst es=>ext f1;ext s1;exact⟨?GA,?GA⟩
 | bl c =>
   cases (show x=.bl c from hx);cases (show u=Value.bool c from rx);cases e with
   | non=>ext iO;exact⟨.bool_none c,.bool_none c⟩
   | bl b=>ext iN;exact⟨.bool_bool c b,.bool_bool c b⟩
   | int i=>ext iT;ext mC;exact⟨?D5,?D5⟩
   | str z=>ext iU;ext mC;exact⟨?EA,?EA⟩
   | tup es=>ext f1;ext rZ;exact⟨?SI,?SI⟩
   | lst es=>ext f1;ext s1;exact⟨?GC,?GC⟩
 | int c =>
   cases (show x=.int c from hx);obtain⟨t,rfl⟩:=rx;cases e with
   | non=>ext iO;exact⟨.int_none c t,.int_none c t⟩
   | bl b=>ext iN;exact⟨?H3,?H3⟩
   | int i=>ext iT;ext y;exact⟨?CR,?CR⟩
   | str z=>ext iU;ext y;exact⟨?HS,?HS⟩
   | tup es=>ext f1;ext rZ;exact⟨?RI,?RI⟩
   | lst es=>ext f1;ext s1;exact⟨?JV,?JV⟩
 | str c =>
   cases (show x=.str c from hx);obtain⟨t,rfl⟩:=rx;cases e with
   | non=>ext iO;exact⟨.str_none c t,.str_none c t⟩
   | bl b=>ext iN;exact⟨?C0,?C0⟩
   | int i=>ext iT;ext y;exact⟨?EV,?EV⟩
   | str z=>ext iU;ext y;exact⟨?GU,?GU⟩
   | tup es=>ext f1;ext rZ;exact⟨?H1,?H1⟩
   | lst es=>ext f1;ext s1;exact⟨?S0,?S0⟩
 | tup ds =>
   ext UD;obtain⟨its,rv,p,_⟩:=?bP q;ext TR
   cases e with
   | non=>ext iO;exact⟨?HT,?HT⟩
   | bl b=>ext iN;exact⟨?GR,?GR⟩
   | int i=>ext iT;ext y;exact⟨?CV,?CV⟩
   | str z=>ext iU;ext y;exact⟨?OS,?OS⟩
   | lst es=>ext rV;obtain⟨its',_,p',_⟩:=?aY q';exact⟨?OO,?OO⟩
   | tup es =>
     have hy':=hy;ext rV;obtain⟨its',WC,p',_⟩:=?bP q'
     have main:?ZE ?fZ ?G:=by
      have:=RcAt.tuples (A:=A) p p' O9m (?WH h);ext AM;ext UA
      ext U8
      rw[e1,e2]at this;ext US
      . rw[?H2];rw[←hl,qx1]at this;ext f7
      . rw[aY hl];have z:?YT ds.length es.length:=by simpa using hl
        rw[z,Bool.and_false]at this;exact this
     refine ?OR;by_cases hab:a=b
     . subst hab;have e3:D.tup ds=D.tup es:=?JB;rw[e3,a8];exact ?y6
     . exact ?IK
 | lst ds =>
   ext UD;obtain⟨its,rv,p,_⟩:=?aY q;ext TR
   cases e with
   | non=>ext iO;exact⟨?P9,?P9⟩
   | bl b=>ext iN;exact⟨?QG,?QG⟩
   | int i=>ext iT;ext y;exact⟨?Q7,?Q7⟩
   | str z=>ext iU;ext y;exact⟨?JR,?JR⟩
   | tup es=>ext rV;obtain⟨its',_,p',_⟩:=?bP q';exact⟨?RA,?RA⟩
   | lst es =>
     have hy':=hy;ext rV;obtain⟨its',WC,p',_⟩:=?aY q'
     have main:?ZE ?l4 ?x:=by
      ext AM;ext UA
      ext U8
      ext US
      . have:=RcAt.lists (A:=A) ?a8 ?yX O9m O9m (?WH h);rw[e1]at this;rw[?H2];exact this
      . rw[aY hl];exact RcAt.lists_lengths ?a8 ?yX (by simpa[e1,e2]using hl) O9m
     refine ?OR;by_cases hab:a=b
     . subst hab;have e3:D.lst ds=D.lst es:=?JB;rw[e3,a8];exact ?y6
     . exact ?IK
 theorem eqDs_ok[?f][?mO]:?C8:=by
 cases ds with
 | nil=>exact fun _ h=>?nO
 | cons d0 r =>
   intro d h;rcases ?fI h with e | h
   . exact e▸qZ I d0
   . exact eqDs_ok I r d h
end
universe e9
universe L2
namespace L2
open PySem PySem.Spec PyProof.Rows PySem.SeqAt
section
variable{X:Cx}
def xC(X:Cx)(H:Hp)(d:D)[?e2]:Bool:=@decide (∃v e,?cZ/\?tR/\?a07 ?tL) (?XM _)
theorem IY[?O][?f]{d e:D}{v:V}[?aL][?fA](h:?tR):xC X H d u=?tL:=by
 cases q:eqD e d with
 | true=>exact @qf9 _ (?XM _) ⟨v,e,r,h,q⟩
 | false =>
   refine @qj6 _ (?XM _) ?_;rintro ⟨v',e',r',h',q'⟩;have:=?oL;subst this;rw[?yG I h h']at q;rw[q]at q';cases q'
theorem iZ[?O][?f][?F]{x:V}[?gQ]{d:D}[?fB][?S]{ds:?aE}(hu:?NQ)(hx:?wL)(rx:?dW)
 (r:?jY) (rv:?fF):∀y,y∈us.toArray->EqAt A s y v (xC X H d y):=by
 intro y hy;have hy':y∈us:=by simpa using hy
 obtain⟨i,hi⟩:=qg0 hy';have hlt:i<us.length:=?j7;have l1:=rv.length;obtain⟨w,hw⟩:∃w,vs[i]?=?jC:=⟨vs[i]' ?hV,?bV⟩
 obtain⟨u,ZK,ru⟩:=?lD hw;rw[hi]at ZK;cases ZK;obtain⟨e,he,re⟩:=r.getV hw;rw[IY I ru re];have hm:e∈ds:=qb0 he;exact(qZ I e A w x y v d (by have:=X4 hm;omega) re hx ru rx).2
theorem lF[?O][?f]{d:D}:∀[?fB][?S]{ds:?aE},?jY->?fF->us.any ?kV=?oI
 | vs,us,[],r,rv=>by
   cases (?X5 ?n7);cases rv;rfl
 | vs,us,e::ds,r,rv=>by
   obtain⟨v,q,rfl,h1,h2⟩:=r;cases rv with
   | cons r1 r2=>rw[ql8,ql8,IY I r1 h1,lF I h2 r2]
def Au8[?d](H:Hp)(y:V)[?mO]:Prop:=?YK y (?l4)\/?YK y (?fZ)
inductive XN[?d](n:Nat)(neg:Bool)[?c8]:Prop
 | mk:∀d ds,?l8->(Au8 K H y ds)->(?dS+1<=n)->(?WL (if neg then !(?oI) else ?oI))->?J4
def Al5[?d](n:Nat)(neg:Bool):R2:=?WG ?J4
theorem MF{n:Nat}[?sJ]:?XB (?b9 .NotIn) (Al5 X.K n ?cJ):=by
 ext dZ;obtain⟨d,ds,hx,hs,hn,q⟩:=h
 have fin:∀[?S][?fB],?jY->?fF->?WY (?cT (!us.toArray.any ?kV)) s:=fun r rv =>
  ⟨.bl (!(?oI)),H,I,by show ?hP _=?hP _;rw[List.any_toArray,lF I r rv],q⟩
 rcases hs with⟨a,vs,rfl,hq,r⟩|⟨a,vs,rfl,hq,r⟩
 . cases ry;obtain⟨its,rv,p,_⟩:=?dR;exact ?X1 notIn_listAt ?a8
 . cases ry;obtain⟨its,rv,p,_⟩:=?fJ;exact ?X1 notIn_tupleAt p
inductive lJ[?d](n:Nat)(x:V)[?e1][?b5]:Prop
 | mk:∀ds y d j,?HI->(?YK x (?l4))->(?YK y d)->(?dS+1<=n)->(ds.findIdx? (?OK)=?cX)->(Q (?GD) H)->?QQ
def oZ[?d](n:Nat):?lO:=fun x vs H Q=>?QQ
theorem qB{n:Nat}[?sJ]:MtR X ?Q0 (oZ X.K n):=by
 ext B3;obtain⟨ds,y,d,j,rfl,⟨a,ws,rfl,hq,r⟩,hy,hn,hj,q⟩:=h;ext B2;obtain⟨its,rw',p,hz⟩:=?dR;have l1:=r.length;have l2:=rw'.length;obtain⟨hlt,hit,hno⟩:=List.findIdx?_eq_some_iff_getElem.mp hj
 have at':∀m (hm:m<its.toArray.size) (hm':m<ds.length),xC X H d ?Q5=eqD ds[m] d:=fun m hm hm'=>by
  obtain⟨w,hw,re⟩:=?iL (i:=m) (d:=ds[m]) ?q;obtain⟨u',hu',ru'⟩:=rw'.get hw
  have e1:?Q5=u':=by
   have hm2:m<its.length:=by simpa using hm
   have:its[m]?=?c its[m]:=?Q
   rw[hu']at this;have:=?uN;ext f7
  rw[e1];exact IY I ru' re
 obtain⟨o,k,ho,hc,hdn,hd⟩:=id p;obtain⟨cls,dd,data,sl⟩:=o;simp only at hc hdn hd;subst hc hdn hd;have hsz:?X9 ds.length:=O9m
 have big:?wR<?bZ:=?DG
 refine ?lX PySem.F.slot_list_index ?lC PySem.F.entry_list_index (PySem.F.args_list_index_2 _ _)
  (list_indexAt a ?J k ?a1 sl u ?kV j (?bV) O9m ?_ ?_) ⟨ho,iZ I (A:=X.A.in1) (by ext B6) hy ru r rw',?_⟩
 . rw[at' j (?bV) hlt];exact hit
 . intro m hm hmj;rw[at' m hm ?aF];have:=hno m hmj;ext f7
 . exact⟨?GD,H,?gA,?fR,q⟩
def KN(n:String):?t1
 | ?v=>false
 | ?eN=>n==?cG || n==?iC
 | ?dN=>n==?cG
 | ?bW=>n==?jG
 | ?G _=>n==?eB
 | ?oT=>n==?dM
def tyD:D->String
 | ?v=>"NoneType"
 | ?eN=>?iC
 | ?dN=>?cG
 | ?bW=>?jG
 | ?G _=>?eB
 | ?oT=>?dM
theorem zD[?aG]{n:String}{d:D}(hn:?wG):PySem.W.kitOne K (?aD (tyD d)) (?aD n)=?c (KN n d):=by
 rcases hn with rfl | rfl | rfl | rfl | rfl | rfl<;>cases d<;>(unfold PySem.W.kitOne PySem.W.kitCls PySem.W.subIn tyD KN;first | rfl | ext aI)
theorem GO:Fu X (?a6 ?n6) (fun xs H Q=>∃x n d,xs=[x,.ty n]/\(?wG)/\?wL/\?WL (KN n d)):=by
 ext gF;obtain⟨x,n,d,rfl,hn,hx,q⟩:=h;obtain⟨u,v,rfl,rx,rt⟩:=X8 r;cases rt;have k:=zD (K:=X.K) (d:=d) hn;have fin:∀tk,EP X Ad σ Q (?cT (KN n d)) { s with toks:=tk }:=fun tk=>⟨.bl (KN n d),H,I.tok tk,rfl,q⟩
 cases d with
 | non=>cases (?ZR ?v);cases (show ?zD from rx);exact ?WK PySem.W.kitx_none ?pH
 | bl b=>cases (?ZR ?bQ);cases (show u=?hP b from rx);exact ?WK PySem.W.kitx_bool ?pH
 | int b=>cases (?ZR ?jN);ext gH;exact ?WK PySem.W.kitx_int ?pH
 | str b=>cases (show x=?dJ b from hx);ext gH;exact ?WK PySem.W.kitx_str ?pH
 | tup ds =>
   obtain⟨a,vs,rfl,hq,_⟩:=hx;cases rx;obtain⟨its,_,⟨o,e,c,_⟩,_⟩:=?fJ;exact ?WK PySem.W.kitx_tuple ?MM
 | lst ds =>
   obtain⟨a,vs,rfl,hq,_⟩:=hx;cases rx;obtain⟨its,_,⟨o,_,e,c,_⟩,_⟩:=?dR;exact ?WK PySem.W.kitx_list ?MM
inductive SE[?d][?c8]:Prop
 | mk:∀a b xs ys,?cK->?uO->?kB->(Ed K H b ys)->(?Y9 ys.length)->?Z9 (xs++ys) ?LU
def wG[?d]:R2:=?WG ?LU
theorem uH:?XB ?iK (wG X.K):=by
 ext dZ;obtain⟨a,b,xs,ys,rfl,rfl,ha,hb,hz,q⟩:=h;by_cases hx:xs=[]
 . subst hx;ext T8;cases r1;obtain⟨⟨cls,dd,data,sl⟩,ho,hc,n,hd⟩:=id p1;obtain⟨⟨Au3,dd2,data2,sl2⟩,ho2,hc2,n2,hd2⟩:=id p2;ext AY
   exact ?oF ?lC ?qB ?yI ?yW qt7 qs6 (qr8 _ _)
    (tuple_addW0 a b _ _ n n2 dd dd2 sl sl2 ?q) ⟨ho,ho2,⟨?pV,H,I,rfl,q b H (Same.refl H) (?eX)⟩⟩
 . refine UH Ad s σ H ?bG ?pX v u Q I rx ry ⟨a,b,xs,ys,rfl,rfl,ha,hb,hx,hz,fun e=>?_,fun e p hp=>?_⟩
   . subst e;exact q a H (Same.refl H) (by simpa using ha)
   . exact ?NH
inductive SA[?d][?BD][?b5]:Prop
 | mk:∀a xs,?cK->?kB->(¬(?eE=0/\?ZL ?jS))->?Z9 (?i6) ?PM
def WD[?d]:?kS:=?YY ?PM
theorem tN:SlR X (WD X.K):=by
 ext AV;obtain⟨a,xs,rfl,hx,hw,q⟩:=h;exact yG Ad s σ H ?bG v vl vu lo hi sl Q I rx hs pl pu ⟨a,xs,rfl,hx,hw,fun p hp=>?NH⟩
inductive LL[?d][?c8]:Prop
 | mk:∀l b xs zs,?oG->?uO->(?Y3 l xs)->(?Y3 b zs)->(?Y9 zs.length)->(?W6 (?x (xs++zs)))->?M2
def OZ[?d]:R2:=?WG ?M2
theorem pO:?XB ?iK (OZ X.K):=by
 ext dZ;obtain⟨l,b,xs,zs,rfl,rfl,hl,hb,hz,q⟩:=h;cases rx;cases ry;obtain⟨its,r1,p1,_⟩:=?aY hl;obtain⟨its2,r2,p2,_⟩:=?aY hb;obtain⟨⟨cls,dd,data,sl⟩,n,ho,hc,hdd,hd⟩:=id p1;obtain⟨⟨Au3,dd2,data2,sl2⟩,n2,ho2,hc2,hdd2,hd2⟩:=id p2;ext AY
 refine ?oF ?lC ?qB noFill_list_add seq_list_add PySem.F.slot_list_add PySem.F.entry_list_add (PySem.F.args_list_add_2 _ _)
  (list_addW l b ?J its2.toArray n n2 dd dd2 sl sl2 (by rw[qc2,qc2,←r1.length,←r2.length];exact hz)) ?DL
 rw[show its.toArray++its2.toArray=(its++its2).toArray by simp];exact⟨?eL,_,I.lnew (t':=s.toks) (r1.append r2) (?E0),rfl,?LL⟩
theorem NT[?d4]:Fu X (?a6 "all") (fun xs H Q=>∃(p:Addr) (bs:?p ?cU),?lW/\SqL X.K H p (bs.map V.bl)/\?WL (bs.all id)):=by
 ext gF;obtain⟨p,bs,rfl,hq,q⟩:=h;obtain⟨u,rfl,ru⟩:=X9 r;cases ru;obtain⟨its,rv,pl,hz⟩:=?dR;have hh:?NP:=?HV
 have rel:∀(i:Nat) (v:Value),its.toArray[i]?=?I->∃b,?pW=?c b/\v=?cT b:=fun i v e=>by
  have e':its[i]?=?I:=?wT
  have hlt:i<its.length:=(?eD e').1;have l1:=rv.length;rw[qa4]at l1;have hb:?pW=?c (bs[i]' ?hV):=?bV
  obtain⟨u,hu,ru⟩:=?lD (i:=i) (x:=V.bl (bs[i]' ?hV)) (by rw[qa9,hb];rfl);rw[e']at hu;cases hu;exact(?YO hb ru)
 refine call_all_walk (qt9 ?hD ?_);refine⟨?z,[s.heap.objs.size,p],[s.heap.objs.size],?x2,_,_,?C9,rfl,Walks.list (show X.A.in1.handled=none from hh) ?z p ?_ ?J,⟨?zC,?_⟩,?_,fun h' tk k=>?_⟩
 . obtain⟨o,_,ho,_⟩:=pl;exact qd1 (qb2 ho)
 . exact pl.isList.at fun o e=>?jJ
 . intro i v s' Q' E' hv hQ;obtain⟨b,hb,rfl⟩:=rel i v hv;dsimp only at hQ;rw[hb]at hQ;exact qk0 hQ
 . have e:(?eK ?x2).all (?C9)=bs.all id:=by
    have l1:=rv.length;rw[qa4]at l1;rw[qc2,←l1];rw[qm5,qe5,qe5];constructor
    . intro hx b hb;obtain⟨i,hi⟩:=qg0 hb;have:=hx i (qe6.mpr ?j7);rw[hi]at this;exact this
    . intro hx i hi;have hlt:=qe6.mp hi;have hb:?pW=?c bs[i]:=?Q
      rw[hb];exact hx _ (qe0 _)
   rw[e];have I1:?EE:=?lS (fun b o e=>k b o (by simp;exact qd1 ?eR) (?jJ));exact⟨.bl (bs.all id),H,I1,rfl,q⟩
universe e9
structure Has[?f6][?d][?m6](x:Str)(ps:?L)(k:Nat)(sp:Sp):Prop where
 ex:∃(f:Addr) (fd:FuncData),mg x=?tP/\?oJ/\?xW/\?Z1 k
section
variable{X:Cx}[?UJ][?aJ]{t:TA}
theorem An(h:Has ?aP X.w X.K ?eT ?dD x ps j sp)[?mL][?iZ](hg:?q9:=by rfl)(hk:j<=k:=by decide)[?m3]
 [?lZ] (hpl:?iH (·.1)=false:=by rfl):?XK ?mX (tCall sp [] E0 t):=by
 obtain⟨f,fd,h1,h2,h3,h4⟩:=h.ex;exact uF h4 (hr.mono hk) hg h1 h2 h3 ?u FE ha hdb he hpl
universe e9
theorem boot_intT:?Y4 ?cG ?cG:=?bY
theorem g6:?Y4 ?iC ?iC:=?bY
theorem Jt:?b7 ?eB=?c (?cR):=?bY
theorem Fm:?b7 ?dM=?c (?aZ):=?bY
theorem Eb:?Y4 ?qM ?qM:=?bY
theorem bR:?Z8 "max" "max":=?bY
theorem nV:?Z8 "min" "min":=?bY
theorem Q8:?Z8 "all" "all":=?bY
theorem By:?Z8 ?n6 ?n6:=?bY
universe L2
namespace L2
open PySem PySem.Spec PyProof.Rows
section
variable{X:Cx}[?aG]{tg l:Expr}{tl:TE}{n:Nat}
theorem Fu.imp{X:Cx}{f:Value}{r r':?cM}(h:Fu X f r)(i:∀xs H Q,r' xs H Q->?C3):Fu X f r':=fun Ad s σ H xs us Q I v q=>h Ad s σ H xs us Q I v (i xs H Q q)
inductive SD[?d][?a4][?b5]:Prop
 | mk:?a0D (Q (?j ?oU) H) ?PF
def Al2[?d]:?cM:=?YA ?PF
inductive gU[?d][?a4][?b5]:Prop
 | mk:?a0D (?E9) ?NY
def tT[?d]:?cM:=?YA ?NY
inductive lI[?d][?a4][?b5]:Prop
 | mk:∀p ys,?rD->(((?y8/\?E4)\/(?xB/\Q ?aO H)))->?JD
def yI[?d]:?cM:=?YA ?JD
inductive GU[?d][?a4][?b5]:Prop
 | mk:∀x n d,(xs=[x,.ty n])->((?wG))->?l8->(?WL (KN n d))->?FR
def tU[?d]:?cM:=?YA ?FR
inductive SH[?d][?a4][?b5]:Prop
 | mk:∀(p:Addr) (bs:?p ?cU),?rD->(?Y3 p (bs.map V.bl))->(?WL (bs.all id))->?CH
def Al7[?d]:?cM:=?YA ?CH
theorem Ub[?Z]:?XB ?iK (wG K):=by subst hK;exact uH
theorem Vt[?Z]:?XB ?iK (OZ K):=by subst hK;exact pO
theorem Nb[?Z]:SlR X (WD K):=by subst hK;exact tN
theorem Nc[?Z]:SlR X (Al0 K):=by subst hK;exact TN
theorem Bc[?Z]:IxR X (Al4 K):=by subst hK;exact uX
theorem Bh[?Z]:IxR X (Al3 K):=by subst hK;exact zG
theorem Az[?Z]:?XA "len" (Al2 K):=?ZP DW
theorem Gr[?Z]:Fu X (?aZ) (tT K):=?ZP dW
theorem K7[?Z]:Fu X (?cR) (yI K):=by subst hK;exact(aJ).imp fun _ _ _ z=>by obtain⟨p,ys,a,b⟩:=z;exact⟨p,ys,a,b⟩
theorem Eu[?Z]:?XA ?n6 (tU K):=by subst hK;exact(GO).imp fun _ _ _ z=>by obtain⟨x,n,d,a,b,c,e⟩:=z;exact⟨x,n,d,a,b,c,e⟩
theorem Ol[?d4][?Z]:?XA "all" (Al7 K):=by subst hK;exact(NT hc).imp fun _ _ _ z=>by obtain⟨p,bs,a,b,c⟩:=z;exact⟨p,bs,a,b,c⟩
theorem Oj[?sJ][?Z]:?XB (?b9 .NotIn) (Al5 K n ?cJ):=?XJ MF hu
theorem MO[?sJ][?Z]:MtR X ?Q0 (oZ K n):=?XJ qB hu
theorem Ce[?sV][?Z]:?YG wX K:=?XJ uB hl
theorem Ua[?sV][?Z]:?YG Ap3 K:=?XJ YL hl
variable{o e:Expr}[?aJ][?TN]
theorem Hz[?SW][?Z]
 [?TT]
 (hfew:(?DY
   && ?WJ 1)=true:=by rfl)
 [?V9] [?AO] (hplain:?AA (·.1)=false:=by rfl) :
 ?XK (?a05 o) (tBM K T r to t):=by subst hK;exact Am1 pa slot hty hm ho ha hbase hfew hline hs hplain
theorem Eh[?aJ]{k:Nat}{t:sW}{n:Nat}[?a0][?d4](h:?DM)[?Z]
 [?VA] (hst:?F1 (·.1)=none:=by rfl):?Z0 K:=by subst hK;exact yM hc h hn hst
universe e9
universe L2
namespace Hb
def Ax[?cA](fam:Int):Aq :=
 if ?j8 then(if w.length<2 then [] else(?eK w.length).map fun i=>w.take i++?v9 ?aH)
 else if ?HK then []
 else if ?eU then(if ?DP then [[],[]] else w.map fun l=>[l])
 else ?v9 1::((?eK (?yU)).map fun i=>w.take i++[(w.getD i 0+w.getD ?aH 0)%fam]++?v9 (i+2))++[w.take (?yU)]
def Fw(fam:Int)[?cA]:Prop :=
 (?j8/\1<=w.length/\w.length<=4)\/(?eU/\(?HK\/?DP\/?ES))\/(?iF/\w.length<=3)
def lv(fam:Int)[?cA]:Nat:=if ?j8 then ?yU else if ?eU then(if ?ES then 2 else w.length) else w.length
theorem Sa[?gP][?gO](h:?a7) :
 (?j8/\((∃a,w=[a])\/(∃a b,w=?b1)\/(?xY)\/∃a b c d,w=?wK)) ∨
 (?eU/\(w=[]\/(∃a,w=[a])\/?xY)) ∨
 (?iF/\(w=[]\/(∃a,w=[a])\/(∃a b,w=?b1)\/?xY)):=by
 rcases h with⟨h0,h1,h2⟩|⟨h0,h1⟩|⟨h0,h1⟩
 . left;refine ?vO
   match w,h1,h2 with
   | [a],_,_=>exact ?X7 a rfl
   | ?b1,_,_=>exact ?g (?i ⟨a,b,rfl⟩)
   | ?fD,_,_=>exact ?g (?g (?i ?u3))
   | ?wK,_,_=>exact ?g (?g (?g ⟨a,b,c,d,rfl⟩))
   | _::?t9,_,h=>simp at h
 . right;left;refine ?vO
   match w,h1 with
   | [],_=>exact ?h8
   | [a],_=>exact ?g (?X7 a rfl)
   | ?b1,h=>simp at h
   | ?fD,_=>exact ?g (?g ?u3)
   | ?t9,h=>simp at h
 . right;right;refine ?vO
   match w,h1 with
   | [],_=>exact ?h8
   | [a],_=>exact ?g (?X7 a rfl)
   | ?b1,_=>exact ?g (?g (?i ⟨a,b,rfl⟩))
   | ?fD,_=>exact ?g (?g (?g ?u3))
   | ?t9,h=>simp at h
theorem At2(a:Int):Ax [a] 0=[]:=rfl
theorem At1(a b:Int):Ax ?b1 0=[[b],[a]]:=rfl
theorem Aa0(a b c:Int):Ax ?fD 0=[?n0,[a,c],?b1]:=rfl
theorem ZZ(a b c d:Int):Ax ?wK 0=[[b,c,d],[a,c,d],[a,b,d],?fD]:=rfl
section
variable[?gP]
theorem At0(h:?eU):?ZF []=[]:=?G8
theorem QX(h:?eU)(a:Int):?ZF [a]=[[],[]]:=by unfold Ax;rw[?hL,?kC,?qP,?uK]
theorem ZX(h:?eU)(a b c:Int):?LC=[[a],[b],[c]]:=by unfold Ax;rw[?hL,?kC,?qP,?kC];rfl
theorem As8(h:?iF):?ZF []=[]:=?G8
theorem QW(h:?iF)(a:Int):?ZF [a]=[[],[]]:=?u1
theorem dJ(h:?iF)(a b:Int):?ZF ?b1=[[b],[?CB],[a]]:=?u1
theorem zX(h:?iF)(a b c:Int):?LC=[?n0,[?CB,c],[a,(b+c)%fam],?b1]:=?u1
theorem Ot{w f:?B}(h:?a7)(hf:f∈?bK):Fw fam f/\lv fam f+1=?gX:=by
 ext AF
 . subst h0;rw[At2]at hf;exact ?uI
 . subst h0;rw[At1]at hf;ext iS;rcases hf with rfl | rfl<;>simp[Fw,lv]
 . subst h0;rw[Aa0]at hf;ext iS;rcases hf with rfl | rfl | rfl<;>simp[Fw,lv]
 . subst h0;rw[ZZ]at hf;ext iS;rcases hf with rfl | rfl | rfl | rfl<;>simp[Fw,lv]
 . rw[At0 h0]at hf;exact ?uI
 . rw[?jP]at hf;ext UI;ext gJ
   simp[Fw,lv,h0,e]
 . rw[ZX h0]at hf;ext gJ
   ext iS;rcases hf with rfl | rfl | rfl<;>simp[Fw,lv,h0,e]
 . rw[As8 h0]at hf;exact ?uI
 . rw[?kA]at hf;ext gJ
   ext mE
   ext UI;simp[Fw,lv,h0,e,e']
 . rw[?dV]at hf;ext gJ
   ext mE
   ext iS;rcases hf with rfl | rfl | rfl<;>simp[Fw,lv,h0,e,e']
 . rw[zX h0]at hf;ext gJ
   ext mE
   ext iS;rcases hf with rfl | rfl | rfl | rfl<;>simp[Fw,lv,h0,e,e']
theorem Ko[?gO](h:?a7):?PY=(if ?r7 then 0 else ?gX+1)/\?gX<=3:=by
 ext AF
 . subst h0;simp[At2,lv]
 . subst h0;simp[At1,lv]
 . subst h0;simp[Aa0,lv]
 . subst h0;simp[ZZ,lv]
 all_goals ext gJ
 . simp[At0 h0,lv,e,h0]
 . simp[?jP,lv,e,h0]
 . simp[ZX h0,lv,e,h0]
 all_goals ext mE
 . simp[As8 h0,lv,e,e']
 . simp[?kA,lv,e,e']
 . simp[?dV,lv,e,e']
 . simp[zX h0,lv,e,e']
theorem faces_agree{w f g:?B}{i j:Nat}(h:?a7)(hl:2<=?gX)(hij:i<j)(hf:?h9[j]?=?c f)(hg:?h9[i]?=?c g):(?SB)[i]?=(?ZF g)[j-1]?:=by
 have hj:j<?PY:=(?eD hf).1;ext AF
 . subst h0;simp[lv]at hl
 . subst h0;simp[lv]at hl
 . subst h0;rw[Aa0]at hf hg hj;ext AP
   ext AS
   . ext R;rfl
   . ext R;rfl
   . ext R;rfl
 . subst h0;rw[ZZ]at hf hg hj;ext T1
   ext T4
   . ext R;rfl
   . ext R;rfl
   . ext R;rfl
   . ext R;rfl
   . ext R;rfl
   . ext R;rfl
 all_goals ext gJ
 . simp[lv,e,h0]at hl
 . simp[lv,e,h0]at hl
 . rw[ZX h0]at hf hg hj;ext AP
   ext AS
   . ext R;simp[?jP]
   . ext R;simp[?jP]
   . ext R;simp[?jP]
 all_goals ext mE
 . simp[lv,e,e']at hl
 . simp[lv,e,e']at hl
 . rw[?dV]at hf hg hj;ext AP
   ext AS
   . ext R;simp[?kA]
   . ext R;simp[?kA]
   . ext R;simp[?kA]
 . rw[zX h0]at hf hg hj;ext T1
   ext T4
   . ext R;simp[?dV]
   . ext R;simp[?dV]
   . ext R;simp[?dV]
   . skip
     ext R;simp only[?dV,List.getElem?_cons_succ,qs9,Nat.add_one_sub_one]
     congr 2
     rw[Int.add_emod_emod,Int.emod_add_emod,qk9]
   . ext R;simp[?dV]
   . ext R;simp[?dV]
universe e9
def lev[?mN]:Nat:=p.length-1
structure Aw1(xs:Aq)[?mN]:Prop where
 cnt:p.length=0\/p.length=2\/p.length=3\/p.length=4
 low:∀f∈p,0<=f
 bel:∀f∈p,∃q,?IS/\lev q+1=lev p
 agr:3<=p.length->∀(i j:Nat) (f g:Int) (q r:?B),i<j->p[j]?=?c f->p[i]?=?c g->?IS->xs[g.toNat]?=?c r->q[i]?=r[j-1]?
def Ck(xs:Aq):Prop:=∀(k:Nat) [?mN],xs[k]?=?c p->Aw1 (xs.take k) p
def lH(fam:Int)(ws:Aq):Prop:=∀(k:Nat) [?cA],?KB->?a7/\∀f∈?bK,f∈ws.take k
theorem lH.nil[?gP]:lH fam []:=fun k w h=>?eW
theorem lH.snoc[?gP]{ws:Aq}[?gO][?sX](hw:?a7)(hf:?uX):lH fam (?yZ):=by
 intro k v hk;by_cases hlt:k<ws.length
 . rw[qc6 hlt]at hk;rw[qp3 ?aF];exact h k v hk
 . have hk':k<(?yZ).length:=(?eD hk).1;have e:k=ws.length:=by simp at hk';omega
   subst e;simp at hk;subst hk;rw[qp3 ?aC,qd0];exact⟨hw,hf⟩
theorem lH.mem[?gP]{ws:Aq}[?sX][?gO](hw:w∈ws):?a7/\?uX:=by
 obtain⟨k,hk⟩:=qg0 hw;obtain⟨h1,h2⟩:=h k w hk;exact⟨h1,fun f hf=>qp6 (?mV)⟩
def Fn(ws:Aq):Aq->Aq
 | []=>ws
 | ?fG=>Fn (?zA) r
theorem j4:∀(rows ws:Aq),(?kO).length<=ws.length+rows.length
 | [],ws=>by simp[Fn]
 | ?fG,ws=>by
   have h1:=j4 r (?zA)
   have h2:(?zA).length<=ws.length+1:=by
    split
    . omega
    . simp
   simp only[Fn,qd4];omega
theorem j3[?gP]:∀(rows ws:Aq),?ND->(∀(k:Nat) [?cA],rows[k]?=?jC->?a7/\∀f∈?bK,?hO\/f∈rows.take k)->lH fam (?kO)
 | [],ws,h,_=>h
 | ?fG,ws,h,hr=>by
   have h0:=hr 0 w rfl;have hw:?uX:=fun f hf=>(h0.2 f hf).resolve_right ?q;simp only[Fn];refine j3 r _ ?_ fun k v hk=>?_
   . split
     . exact h
     . exact h.snoc h0.1 hw
   . obtain⟨h1,h2⟩:=hr ?hY v (?xV);refine ?NU;rcases ?mV with z | z
     . left;split
       . exact z
       . exact qn0 _ z
     . rw[List.take_succ_cons]at z;rcases ?fI z with z | z
       . left;subst z;split
         . assumption
         . simp
       . exact ?g z
def Db(ws:Aq):?zL
 | acc,[]=>acc
 | acc,f::r=>Db ws (?wC) r
theorem i8{ws:Aq}[?j5]:∀[?mP],?xD->?lE\/x∈fs
 | [],acc,h=>?i h
 | f::r,acc,h=>by
   rcases i8 r _ h with z | z
   . split at z
     . rcases ql3.mp z with z | z
       . exact ?e6
       . exact ?g (by simp at z;simp[z])
     . exact ?e6
   . exact ?g (qb9 _ z)
theorem Qs{ws:Aq}[?j5]:∀[?mP],?lE->?xD
 | [],acc,h=>h
 | f::r,acc,h=>Qs r _ (by split;exact qn0 _ h;exact h)
theorem i9{ws:Aq}[?j5]:∀[?mP],x∈fs->?uA\/?xD
 | f::r,acc,h=>by
   ext m9
   . subst e;by_cases h1:?uA
     . exact ?i h1
     . right;refine Qs r _ ?_;by_cases h2:?lE
       . rw[?s (by simp[h2])];exact h2
       . rw[?C ⟨h1,h2⟩];simp
   . exact i9 r _ e
theorem Tb{ws:Aq}:∀[?mP],?YB ?jA fs.length
 | [],acc=>by simp[Db]
 | f::r,acc=>by
   have h1:=Tb (ws:=ws) r (?wC)
   have h2:?YB ?wC 1:=by
    split
    . simp
    . omega
   simp only[Db,qd4];omega
def below[?sQ]:?zL
 | acc,[]=>acc
 | acc,?fG=>?Z2 (Db ws acc ?h9) r
theorem Ra[?f8][?j5]:∀(l acc:Aq),?tG->?lE\/∃w∈l,x∈?bK
 | [],acc,h=>?i h
 | ?fG,acc,h=>by
   rcases Ra r _ h with z|⟨v,hv,z⟩
   . rcases i8 _ _ z with z | z
     . exact ?e6
     . exact ?g ⟨w,qc9,z⟩
   . exact ?g ⟨v,?E5,z⟩
theorem i4[?f8][?j5]:∀(l acc:Aq),?lE->?tG
 | [],acc,h=>h
 | ?fG,acc,h=>i4 r _ (Qs _ _ h)
theorem bV[?f8]{x w:?B}:∀(l acc:Aq),w∈l->x∈?bK->?uA\/?tG
 | v::r,acc,h,hx=>by
   ext m9
   . subst e;rcases i9 (ws:=ws) _ acc hx with z | z
     . exact ?e6
     . exact ?g (i4 r _ z)
   . exact bV r _ e hx
theorem Nl[?f8]:∀(l acc:Aq),(∀w∈l,?a7)->?YB ?wJ ?KS
 | [],acc,_=>by simp[below]
 | ?fG,acc,h=>by
   have h1:=Nl (ws:=ws) r (Db ws acc ?h9) fun v hv=>h v (?E5);have h2:=Tb (ws:=ws) ?h9 acc;have h3:=Ko (h w qc9);simp only[below,qd4];split at h3<;>omega
theorem W8(ws:Aq)(f:?B):∀[?mP],Db ws acc (fs++[f])=(if ?M4/\f ∉ ?jA then ?jA++[f] else ?jA)
 | [],acc=>rfl
 | g::fs,acc=>W8 ws f fs _
theorem g9[?sQ][?cA]:∀(l acc:Aq),?Z2 acc (l++[w])=Db ws (?wJ) ?h9
 | [],acc=>rfl
 | v::l,acc=>g9 ws fam w l _
theorem W9[?cA]:∀(rows ws:Aq),Fn ws (rows++[w])=(if w∈?kO then ?kO else ?kO++[w])
 | [],ws=>rfl
 | v::rows,ws=>W9 w rows _
def Oh[?sQ]:Nat->?zL
 | 0,layer,rows=>rows
 | n+1,layer,rows=>Oh ws fam n (?Z2 [] layer) (layer++rows)
theorem BD[?f8]:∀(n:Nat) (layer rows:Aq),(∀w∈layer,?a7/\?gX<n) →
 (∀(k:Nat) [?cA],rows[k]?=?jC->?a7/\∀f∈?bK,?hO\/f∈layer\/f∈rows.take k) →
 ∀(k:Nat) [?cA],(?HL)[k]?=?jC->?a7/\∀f∈?bK,?hO\/f∈(?HL).take k
 | 0,layer,rows,hl,hr,k,w,hk=>by
   obtain⟨h1,h2⟩:=hr k w hk;ext TX
   . exact ?e6
   . exact ?t (hl f z).2 O9m
   . exact ?g z
 | n+1,layer,rows,hl,hr,k,w,hk=>by
   refine BD n _ _ ?_ ?_ k w hk
   . intro v hv;rcases ?CO with z|⟨u,hu,z⟩
     . exact ?qI
     . obtain⟨q1,q2⟩:=hl u hu;obtain⟨q3,q4⟩:=Ot q1 z;exact⟨q3,O9m⟩
   . intro m v hm;by_cases hlt:m<layer.length
     . rw[qc6 hlt]at hm;have hv:v∈layer:=qb0 hm;refine⟨(hl v hv).1,?CY⟩;rcases bV (ws:=ws) layer [] hv hf with z | z
       . exact ?e6
       . exact ?g (?e6)
     . rw[qd3 ?aF]at hm;obtain⟨h1,h2⟩:=hr _ v hm;ext TX
       . exact ?e6
       . right;right;rw[List.take_append];refine qn0 _ ?_;rw[qi1 ?aF];exact z
       . right;right;rw[List.take_append];exact qg2 _ z
def Qu(ws:Aq)[?cA](fam:Int):Aq:=Fn ws (?P6)
theorem n0{ws:Aq}[?gO][?gP][?sX](hw:?a7):lH fam (?SH):=by
 refine j3 _ _ h (BD 4 [w] [] ?_ ?_)
 . intro v hv;have e:v=w:=?lP
   subst e;exact⟨hw,by have:=(Ko hw).2;omega⟩
 . intro k v hk;simp at hk
def dD(ws:Aq)(f:?B):Nat:=?zS (·==f)
theorem uY{ws:Aq}{f:?B}(h:?hO):ws[?lT]?=?c f:=by
 unfold dD;have hl:?zS (·==f)<ws.length:=List.findIdx_lt_length_of_exists ?I0;rw[qa0 hl];have:=List.findIdx_getElem (xs:=ws) (p:=(·==f)) (w:=hl);ext f7
theorem ZI{ws:Aq}{f:?B}{k:Nat}(h:f∈ws.take k):?lT<k:=by
 unfold dD;obtain⟨i,hi⟩:=qg0 h;have hlt:i<(ws.take k).length:=?j7;rw[qk8]at hi;split at hi
 . rename_i hik
   have hl:i<ws.length:=?j7
   have e:ws[i]=f:=by
    rw[qa0 hl]at hi;exact qd7 hi
   have hle:?zS (·==f)<=i:=by
    apply qg7;intro hgt;have:=List.not_of_lt_findIdx hgt;simp[e]at this
   omega
 . cases hi
def Nw[?sQ]:Aq:=ws.map fun w=>?o7 ?xF
theorem eX[?f8]{k:Nat}[?gO](h:?KB):(?tA)[k]?=?c (?o7 ?xF):=by
 unfold Nw;rw[qa9,h];rfl
theorem v4[?f8][?sX]:Ck (?tA):=by
 intro k p hp;unfold Nw at hp;rw[qa9]at hp;cases hw:ws[k]? with
 | none=>rw[hw]at hp;cases hp
 | some w =>
   rw[hw]at hp;have ZL:?o7 (?xF)=p:=by simpa using hp
   subst ZL;obtain⟨h1,h2⟩:=h k w hw;obtain⟨n1,n2⟩:=Ko h1
   have look:∀f∈?bK,((?tA).take k)[((?lT:Nat):Int).toNat]?=?c ((?SB).map fun g=>(dD ws g:Int)):=fun f hf=>by
    have hm:=?mV;have hlt:=ZI hm;rw[qe3,qk8,?C hlt];exact eX (uY (qp6 hm))
   refine⟨?_,?_,?_,?_⟩
   . rw[qa4];by_cases hz:?r7
     . rw[?C hz]at n1;omega
     . rw[?xK]at n1;omega
   . intro f hf;obtain⟨g,_,rfl⟩:=?F8;omega
   . intro f hf;obtain⟨g,hg,rfl⟩:=?F8;refine⟨_,look g hg,?_⟩;obtain⟨w1,l1⟩:=Ot h1 hg;obtain⟨m1,_⟩:=Ko w1;unfold lev;rw[qa4,qa4];have hz:¬?r7:=O9m
     rw[?xK]at n1;by_cases hy:lv fam g=0
     . rw[?C hy]at m1;omega
     . rw[?s hy]at m1;omega
   . intro hl i j f g q r hij hf hg hq hr;rw[qa4]at hl;rw[qa9]at hf hg;cases ef:(Ax w fam)[j]? with
     | none=>rw[ef]at hf;cases hf
     | some F =>
       cases eg:(Ax w fam)[i]? with
       | none=>rw[eg]at hg;cases hg
       | some G =>
         rw[ef]at hf;rw[eg]at hg;have ef':((dD ws F:Nat):Int)=f:=by simpa using hf
         have eg':((dD ws G:Nat):Int)=g:=by simpa using hg
         subst ef' eg';rw[look F (qb0 ef)]at hq;rw[look G (qb0 eg)]at hr;cases hq;cases hr;have hz:¬?r7:=by intro z;rw[?C z]at n1;omega
         rw[?xK]at n1;rw[qa9,qa9,faces_agree h1 ?aF hij ef eg]
theorem iQ[?f8][?gO](hw:?a7):(?P6).length<=85:=by
 have step:∀l:Aq,(∀v∈l,?wP)->(?M5).length<=?KS/\∀v∈?M5,?wP:=fun l hl=>by
  refine⟨by have:=Nl (ws:=ws) l [] hl;ext f7,fun v hv=>?_⟩;rcases ?CO with z|⟨u,hu,z⟩
  . exact ?qI
  . exact(Ot (hl u hu) z).1
 have s0:∀v∈[w],?wP:=fun v hv=>by
  have e:v=w:=?lP
  subst e;exact hw
 obtain⟨a1,b1⟩:=step _ s0;obtain⟨a2,b2⟩:=step _ b1;obtain⟨a3,b3⟩:=step _ b2;simp only[Oh,qc3,qm3,qd4]at a1 a2 a3 ⊢;omega
section
variable{xs:Aq}
universe e9
universe Hb
namespace L2
inductive Em{A0:Type}(p:A0->Prop):Prop
 | mk (x0:A0) (h:p x0):Em p
inductive Ju{A0 A1:Type}(p:?W8 A0 A1):Prop
 | mk (x0:A0) (x1:A1) (h:p x0 x1):Ju p
inductive Nv{A0 A1 A2:Type}(p:A0->?W8 A1 A2):Prop
 | mk [?sI] (h:p x0 x1 x2):Nv p
inductive Th{A0 A1 A2 A3:Type}(p:A0->A1->?W8 A2 A3):Prop
 | mk [?sI] (x3:A3) (h:p x0 x1 x2 x3):Th p
inductive Xr{A0 A1 A2 A3 A4:Type}(p:A0->A1->A2->?W8 A3 A4):Prop
 | mk [?sI] (x3:A3) (x4:A4) (h:p x0 x1 x2 x3 x4):Xr p
inductive Ex6{A0 A1 A2 A3 A4 A5:Type}(p:A0->A1->A2->A3->?W8 A4 A5):Prop
 | mk [?sI] (x3:A3) (x4:A4) (x5:A5) (h:p x0 x1 x2 x3 x4 x5):Ex6 p
inductive XQ{A0 A1 A2 A3 A4 A5 A6:Type}(p:A0->A1->A2->A3->A4->?W8 A5 A6):Prop
 | mk [?eZ] (h:p x0 x1 x2 x3 x4 x5 x6):XQ p
inductive xQ{A0 A1 A2 A3 A4 A5 A6 A7:Type}(p:A0->A1->A2->A3->A4->A5->?W8 A6 A7):Prop
 | mk [?eZ] (x7:A7) (h:p x0 x1 x2 x3 x4 x5 x6 x7):xQ p
inductive Ex9{A0 A1 A2 A3 A4 A5 A6 A7 A8:Type}(p:A0->A1->A2->A3->A4->A5->A6->?W8 A7 A8):Prop
 | mk [?eZ] (x7:A7) (x8:A8) (h:p x0 x1 x2 x3 x4 x5 x6 x7 x8):Ex9 p
inductive NZ{A0 A1 A2 A3 A4 A5 A6 A7 A8 A9:Type}(p:A0->A1->A2->A3->A4->A5->A6->A7->?W8 A8 A9):Prop
 | mk [?eZ] (x7:A7) (x8:A8) (x9:A9) (h:p x0 x1 x2 x3 x4 x5 x6 x7 x8 x9):NZ p
inductive GX{A0 A1 A2 A3 A4 A5 A6 A7 A8 A9 LO:Type}(p:A0->A1->A2->A3->A4->A5->A6->A7->A8->?W8 A9 LO):Prop
 | mk [?eZ] [?s6] (h:p x0 x1 x2 x3 x4 x5 x6 x7 x8 x9 R9):GX p
inductive VT{A0 A1 A2 A3 A4 A5 A6 A7 A8 A9 LO xT:Type}(p:A0->A1->A2->A3->A4->A5->A6->A7->A8->A9->?W8 LO xT):Prop
 | mk [?eZ] [?s6] (x11:xT) (h:p x0 x1 x2 x3 x4 x5 x6 x7 x8 x9 R9 x11):VT p
inductive Ac6{A0 A1 A2 A3 A4 A5 A6 A7 A8 A9 LO xT A12:Type}(p:A0->A1->A2->A3->A4->A5->A6->A7->A8->A9->LO->?W8 xT A12):Prop
 | mk [?eZ] [?s6] (x11:xT) (x12:A12) (h:p x0 x1 x2 x3 x4 x5 x6 x7 x8 x9 R9 x11 x12):Ac6 p
inductive Aw2{A0 A1 A2 A3 A4 A5 A6 A7 A8 A9 LO xT A12 A13 A14 A15 A16 A17 A18:Type}(p:A0->A1->A2->A3->A4->A5->A6->A7->A8->A9->LO->xT->A12->A13->A14->A15->A16->?W8 A17 A18):Prop
 | mk [?eZ] [?s6] (x11:xT) (x12:A12) (x13:A13) (x14:A14) (x15:A15) (x16:A16) (x17:A17) (x18:A18) (h:p x0 x1 x2 x3 x4 x5 x6 x7 x8 x9 R9 x11 x12 x13 x14 x15 x16 x17 x18):Aw2 p
inductive E5(p0 p1 p2:Prop):Prop
 | mk [?sH]:E5 p0 p1 p2
inductive B4(p0 p1 p2 p3:Prop):Prop
 | mk [?sH] (h3:p3):B4 p0 p1 p2 p3
inductive D6(p0 p1 p2 p3 p4:Prop):Prop
 | mk [?sH] (h3:p3) (h4:p4):D6 p0 p1 p2 p3 p4
inductive Hq(p0 p1 p2 p3 p4 p5:Prop):Prop
 | mk [?sH] (h3:p3) (h4:p4) (h5:p5):Hq p0 p1 p2 p3 p4 p5
inductive Lk(p0 p1 p2 p3 p4 p5 p6:Prop):Prop
 | mk [?gD]:Lk p0 p1 p2 p3 p4 p5 p6
inductive EE(p0 p1 p2 p3 p4 p5 p6 p7:Prop):Prop
 | mk [?gD] (h7:p7):EE p0 p1 p2 p3 p4 p5 p6 p7
inductive gY(p0 p1 p2 p3 p4 p5 p6 p7 p8:Prop):Prop
 | mk [?gD] (h7:p7) (h8:p8):gY p0 p1 p2 p3 p4 p5 p6 p7 p8
inductive lO(p0 p1 p2 p3 p4 p5 p6 p7 p8 p9:Prop):Prop
 | mk [?gD] (h7:p7) (h8:p8) (h9:p9):lO p0 p1 p2 p3 p4 p5 p6 p7 p8 p9
inductive XS(p0 p1 p2 p3 p4 p5 p6 p7 p8 p9 WH:Prop):Prop
 | mk [?gD] (h7:p7) (h8:p8) (h9:p9) (h10:WH):XS p0 p1 p2 p3 p4 p5 p6 p7 p8 p9 WH
inductive xS(p0 p1 p2 p3 p4 p5 p6 p7 p8 p9 WH p11 p12 p13:Prop):Prop
 | mk [?gD] [?U4]:xS p0 p1 p2 p3 p4 p5 p6 p7 p8 p9 WH p11 p12 p13
inductive XR(p0 p1 p2 p3 p4 p5 p6 p7 p8 p9 WH p11 p12 p13 p14 p15:Prop):Prop
 | mk [?gD] [?U4] (h14:p14) (h15:p15):XR p0 p1 p2 p3 p4 p5 p6 p7 p8 p9 WH p11 p12 p13 p14 p15
universe L2
namespace Hb
open PySem L2
def f6[?j4](k:Int):Int:=ns.getD ?r2 0
noncomputable abbrev LT[?d](H:Hp)(v:V)(xs:Aq):Prop:=?YK v (?x ?eQ)
noncomputable abbrev TI[?d](H:Hp)(v:V)[?j4]:Prop:=?YK v (tI ns)
section
variable[?aG][?e3]
theorem TI.sq{v:V}[?gM](h:?uF):∃a,?h5/\?PQ:=by
 ext sA;rw[Iw.mp r]at q;exact⟨a,e,q⟩
theorem TI.mk[?bN][?gM](h:?PQ):TI K H ?bG ns:=⟨a,_,rfl,h,?QJ⟩
theorem TI.same{v:V}[?gM](s:?bX)(h:?uF):?SF:=?ML s h
theorem TI.t{v:V}[?gM](s:?lA)(h:?uF):?SF:=Rep.t s (QO ns) h
theorem Us[?a4](k:Nat):J9 xs ?a1 (?c ?hM)=xs.take k:=by
 unfold J9;rw[HT.sIx_none,HT.sIx_nat,qw9,List.drop_zero,List.take_eq_take_iff];omega
theorem Qp[?a4](k:Nat):J9 xs (?c ?hM) ?a1=?t8 k:=by
 unfold J9;rw[HT.sIx_none,HT.sIx_nat];by_cases h:k<=xs.length
 . rw[Nat.min_eq_left h,qi1 (by rw[qj0];omega)]
 . rw[Nat.min_eq_right ?aF,List.drop_length,List.drop_of_length_le ?aF];simp
theorem MC{D:Addr}{ys:?o}{v:V}{d:L2.D}{ds:?r9}(hD:H D=?c ?eY)(r:?YS ys ds)(rv:?e9)(hi:imms (ds++[d])=true):?V K (?WF D (?x (ys++[v]))) (ys++[v]) (ds++[d]) :=
 (r.snoc rv).t (Ux.lst hD) hi
theorem Oa{D:Addr}{ys:?o}{v:V}{xs:Aq}[?j5](hD:H D=?c ?eY)(r:?YS ys ?eQ)(rv:?Z6 x):?V K (?WF D (?x (ys++[v]))) (ys++[v]) ((xs++[x]).map tI):=by
 have e:(xs++[x]).map tI=?A2++[tI x]:=?Q
 have h:=Zz (xs++[x]);rw[e]at h ⊢;exact MC hD r rv h
def SameX(B:Addr)(H H':Hp):Prop:=∀b o,b≠B->?C7
theorem SameX.refl(B:Addr)(H:Hp):?kK B H H:=fun _ _ _ h=>h
theorem SameX.trans{B:Addr}{H H1 H2:Hp}[?sO](b:?kK B H1 H2):?kK B H H2:=fun c o n h=>b c o n (a c o n h)
theorem SameX.of[?BZ](a:?z7):?Q8:=fun c o _ h=>a c o h
theorem SameX.upd[?BZ]{o:HO}[?sO]:?kK B H (upd H1 B o):=fun c u n h=>by rw[Ai n];exact a c u n h
theorem SameX.t[?BZ]{us:?o}[?sO](h:H B=?vW):Ux H H1 :=
 ⟨fun b xs e=>?NW,fun b o u e=>?NW⟩
theorem SameX.same{B:Addr}{H0 H H1:Hp}[?sO](s:?dY H0 H)(h:H0 B=none):?dY H0 H1:=fun b o e=>a b o (Ao e h) (s b o e)
theorem V6:∀ns:?B,deps ?hG=0
 | []=>rfl
 | n::ns=>by show max (dep (?nT)) (deps ?hG)=0;rw[V6 ns];rfl
theorem Qo:∀xs:Aq,deps ?eQ<=1
 | []=>?lM
 | ?jZ=>by
   have h1:=Qo xs;have h2:dep (tI x)=1:=by show deps (Fe x)+1=1;rw[V6]
   show max (dep (tI x)) (deps ?eQ)<=1;omega
theorem Ta(f:?B):∀xs:Aq,(?A2).any (fun e=>eqD e (tI f))=?n (f∈xs)
 | []=>rfl
 | ?jZ=>by
   rw[qc5,ql8,Ta f xs,QY];by_cases h:x=f
   . subst h;simp
   . have h':¬f=x:=fun z=>h z.symm;simp[h,h']
theorem DC[?BP](hc:c)(h:A):?vP:=by rw[?C hc];exact h
theorem Ih[?BP](hc:¬c)(h:B):?vP:=by rw[?s hc];exact h
theorem neI{a b:Int}(h:¬a=b):?K0:=?vR
theorem eqI{a b:Int}(h:a=b):¬?K0:=?vR
theorem isI{a b:Int}(h:a=b):?n (?c1 a=?c1 b)=true:=?vR
theorem Cw{g:TG}[?iR][?f3][?f0][?AX]
 [?SP]
 [?m4]:?W1 ?nU lY:=?X4 BP
theorem Wb{g:TG}[?iR][?f3][?f0][?UF]
 [?SP]
 [?m4]:?W1 ?q2 lY:=?X4 RM
theorem Hn{g:TG}[?iR]{lo:Int}{n:Nat}[?f0]
 (hs:?Y8 ?QP)
 [?VF]:?W1 (?gS) lY:=jI Pv h0 (fun i ys τ H e p=>hs i ys τ H e p) hd
theorem Ap[?B1][?BC][?TL]:?pG:=h hu
theorem qx4[?B1][?TL][?BC]:?pG:=h hu
theorem E9[?B1][?BC](h:(?MG)->?pG):?pG:=h hu
theorem iX{f:?B}:∀{ws:Aq},?hO->?XO ?c ?lT:=fun {ws} h=>by
 have e:?XO ws.findIdx? ?PT:=by
  rw[List.findIdx?_map]
  congr 1
  funext w
  show eqD (tI w) (tI f)=(w==f)
  rw[QY];by_cases z:w=f
  . subst z;simp
  . simp[z]
 rw[e,List.findIdx?_eq_some_of_exists (xs:=ws) (p:=?PT) ?I0];rfl
theorem small{n:Nat}(h:?L0):n<sizeLine:=qb8 h ?bH
theorem Cb{n:Nat}(h:?L0):?IA:=qe2 (small h)
universe e9
section
variable[?d]
def HN:Sp:=fun vs H Q _=>Nv fun ?kT ?I5 ?hM=>D6 (vs=[?aB,?j k]) (?qN) (0<=k) (ns.length<=63) (Q (?j (f6 ns k)) H)
def eS:Sp:=fun vs H Q _=>Nv fun(v:V) (w:?B) ?ER=>B4 (vs=[v,?yL]) (?Z6 w) (?a7) (∀(p:Addr) (us:?o) (H':Hp),?aV->?bX->?LN->?V K H' us (?o7 tI)->?kP)
def HM:Sp:=fun vs H Q _=>Nv fun(c fam letters:Int)=>D6 (vs=[?j c,?yL,?j letters]) (0<letters) (letters<100) (fam<100) (∀(v:V) (H':Hp) [?cA],?bX->TI K H' v w->?a7->?lG)
def n6:Sp:=fun vs H Q _=>Ex6 fun(l:Addr) (us:?o) (v:V) (ws:Aq) (w:?B) ?ER=>Lk (vs=[?nW,v,?yL]) (H l=?vW) (?YS us (ws.map tI)) (?Z6 w) (?a7) (ws.length<=100) (∀(p:Addr) (us':?o) (H':Hp),?aV->?bX->H' p=?c (?x us')->?V K H' us' ((?SH).map tI)->?kP)
def ER:Sp:=fun vs H Q _=>Th fun ?kT ?I5 (kind most:Int)=>Hq (vs=[?j kind,?aB,?j most]) (?qN) (ns.length<=63) (0<=most) (most<=100) (∀(p:Addr) (us:?o) (H':Hp) (xs:Aq),?aV->?bX->?LN->?V K H' us ?eQ->Ck xs->?kI<=most->?kP)
universe e9
def Kq(d:L2.D):Bool:=KN ?cG d&&!KN ?iC d
def belowD(d:L2.D)(b:Int):Bool:=match d with
 | ?H=>?Q3&&?n (i<b)
 | _=>false
def C6(n:Nat):Int:=if (0:Int) > ?aQ-1 then 0 else ?aQ-1
def Dr(xs:Aq)(d:L2.D)(l:Int):Bool:=match d with
 | ?H=>?Q3&&?n (i<?kI)&&?n (C6 (?KM).length=l)
 | _=>false
def Uu(xs:Aq)[?mN](j i:Nat):Bool:=?n (?ZK j i=?ZK i (j-1))
def Mr(xs:Aq)[?mN]:Bool:=(?eK p.length).all fun j=>(?eK j).all fun i=>Uu xs p j i
def vZ:L2.D->Int
 | ?H=>i
 | _=>0
def dU(n:Nat):Bool:=n==0 || n==2 || n==3 || n==4
def Z8(xs:Aq)(d:L2.D):Bool:=match d with
 | ?fZ=>?DQ
 | _=>false
theorem Q5(xs:Aq)(ds:?r9):Z8 xs (?fZ)=(?DQ):=rfl
theorem vI{n:Nat}(h:dU n=true):n<=4/\n≠1:=by
 unfold dU at h;simp only[qq6,qw4]at h;omega
section
variable[?d]
def Jl:Sp:=fun vs H Q _=>Ju fun ?qF ?qW=>E5 ?DW ?l8 (?WL (Kq d))
noncomputable abbrev Sc:Sp:=Jl K
def Hr:Sp:=fun vs H Q _=>Nv fun ?qF ?qW (b:Int)=>E5 (vs=[x,?jN]) ?l8 (?WL (belowD d b))
def Ff:Sp:=fun vs H Q _=>Ju fun ?qF (ds:?r9)=>E5 ?DW (Au8 K H x ds) (Q (?j (?zO)) H)
def Fx:Sp:=fun vs H Q _=>Xr fun ?kT ?qF ?qW (l:Int) ?x0=>B4 (vs=[?aB,x,?j l]) (?kY) ?l8 (?WL (Dr xs d l))
def Pl:Sp:=fun vs H Q _=>Th fun ?kT (v:V) ?x0 (p:?B)=>Hq (vs=[?aB,v]) (?kY) (?QO) (p.length<=4) ((∀f∈p,0<=f/\f<?kI/\(?r3 f.toNat []).length+1=p.length)) (?WL (Mr xs p))
def JZ:Sp:=fun vs H Q _=>Th fun ?kT (th:V) ?qW ?x0=>B4 (vs=[?aB,th]) (?kY) (?YK th d) (∀H',?bX->Q (.bl (Z8 xs d)) H')
noncomputable abbrev Tr:Sp:=HN K
noncomputable abbrev L3:Sp:=eS K
noncomputable abbrev Tq:Sp:=HM K
noncomputable abbrev O6:Sp:=n6 K
noncomputable abbrev Rp:Sp:=ER K
universe e9
section
variable[?aG]{H:Hp}
theorem HB{d:L2.D}(h:Kq d=true):∃i,d=?H:=by
 cases d<;>simp[Kq,KN]at h;ext mG
theorem LT.get[?bN]{xs:Aq}{i:Int}(h:?kY)(h0:?iM)(h1:i<?kI):∃us v,?CS/\DZ us i=?I/\?Z6 (?KM):=by
 obtain⟨a',us,e,hq,r⟩:=h;cases e;obtain⟨j,rfl⟩:=qt2 h0;have hj:?uR:=O9m
 have e:?eQ[j]?=?c (tI xs[j]):=by rw[qa9,?A5];rfl
 obtain⟨v,hv,tv⟩:=?iL e;refine⟨us,v,hq,Bm hv,?_⟩;rw[qe3,qa3,?A5];exact tv
theorem LT.len[?bN]{xs:Aq}(h:?kY):∃us,?CS/\?ZL us.length:=by
 obtain⟨a',us,e,hq,r⟩:=h;cases e;exact⟨us,hq,by have:=r.length;ext f7⟩
theorem TI.get{v:V}{p:?B}{i:Int}(h:?QO)(h0:?iM)(h1:i<(p.length:Int)):∃a,?h5/\Ed K H a (p.map ?c1)/\DZ (p.map ?c1) i=?c (?j (?A4 ?AB 0)):=by
 obtain⟨a,e,hq⟩:=h.sq;refine⟨a,e,hq,?_⟩;obtain⟨j,rfl⟩:=qt2 h0;have hj:j<p.length:=O9m
 refine Bm ?_;rw[qa9,?A5];simp[hj]
theorem cV(n:Nat):C6 n=((n-1:Nat):Int):=by unfold C6;split<;>omega
theorem GR{xs:Aq}{l:Int}:∀{ds:?r9},ds.all (fun e=>Dr xs e l)=true->ds=Fe (ds.map vZ)
 | [],_=>rfl
 | ?fU,h=>by
   simp only[List.all_cons,qc4]at h;cases d with
   | int i =>
     show L2.D.int i::ds=L2.D.int i::Fe (ds.map vZ);rw[←GR h.2]
   | _=>simp[Dr]at h
universe e9
universe Hb
namespace L2
open PySem PySem.Spec PyProof.Rows
section
variable[?m1]{xc:Str}[?O]{C c:Addr}[?e0]
universe e9
section
variable[?m1]{xc:Str}[?VI][?a0][?mM]{te:TE}
universe e9
section
variable{fs:?aS}[?e3]{h B h' h2:Heap}
universe e9
noncomputable abbrev XJ:=?aA->OAddr->?M
section
variable[?BU][?e3]{s s':Shared}{e:Addr}{cls a0:Value}{dx:OAddr}
universe e9
section
variable[?c7][?m7]{N:?L}[?VC][?F]{outer:?cQ}[?aX]{H:Hp}{E:XK}
universe e9
section
variable{X:Cx}{J:XJ}[?UJ][?aJ]{t:TA}
universe e9
universe L2
namespace L2
open PySem PySem.Spec PyProof.Rows PySem.W
section
variable{X:Cx}{Ad pn:Bn}{σ:St}{H:Hp}[?aX]{J:XJ}
universe e9
section
variable{X:Cx}{th:Ends->XJ}
universe e9
section
variable[?iY][?F][?a9][?d9]{g:?i0 GenState}{d:Drawn}{t:Nat}{os:OsState}{a C:Addr}{o:Obj}{K:Frag}
universe e9
section
variable{X:Cx}{K:Frag}
universe e9
universe L2
namespace L2
open PySem PySem.Spec PyProof.Rows
def Ite[?d][?cC]:It :=
 ⟨?CK,fun i H x H'=>∃p v,?aV/\x=?dG/\H'=?WF p (?G [?H,v])/\∀xs,?bD->xs[i]?=?I,?G9⟩
theorem LS[?c7][?aJ][?sM](a e it:Addr)(hne:e≠it):Wf P w K ?oM (?iB) ?v3 e (fun i h=>(∃old,IsEnum h e it ?y2 old)/\?D1) where
 mem:=?Q
 obj:=fun i h st b hb=>by
  obtain⟨⟨old,h1⟩,o,h2,c,d⟩:=st;ext s5
  . exact⟨_,h1,fun v z=>by cases (show ?yS from z)⟩
  . ext BE
    subst z;exact⟨o,h2,?PX⟩
 keep:=fun i h h' st k=>by
  ext s2;exact⟨⟨old,k e ?q _ h1⟩,h2.at fun o z=>k it ?q o z⟩
 item:=by
  ext d1;ext s2;ext T7;have fe:=hf e ?q;have fi:=?D7;have lte:?XP e:=qb2 h1;ext TY;refine wpAny_pyNext_enum_item h1 h2 ?a8 (x:=u) ?n9 hne fun h' hout mU htup hsz hk=>?_;refine⟨_,rfl,wpAny_letOwnedTupleGo_enum hout fun h3 hen Pa=>?_⟩
  replace Pa:?jH e h' h3:=Pa
  have kk:∀b o,?lK->?qZ->?bS->?pU b=?r:=fun b o n1 n2 z=>(?cN b n1).trans (hk b o n1 n2 z);have UY:?YN ?R2 u:=(?cN _ (qk6 lte)).trans htup;have hi3:?w8 it a ?aH:=mU.at fun o z=>(?cN it hne.symm).trans z;have cQ:∀b,b ∉ ?v3->?MV:=fun b hb=>?eX
  have z9:∀b v,H b=?I->?MV:=fun b v z=>⟨Ao z fe.1,Ao z fi.1⟩
  have T8:∀b v,H b=?I->b≠s.heap.objs.size:=fun b v z=>Ao z ?oY;refine⟨?eL,?R7,?_,rfl,⟨?z,x,?oY,rfl,rfl,?N9⟩,⟨?RC,hi3⟩,?cF⟩
  . refine Bo.step (s:=s) (h':=h3) (t':=?xQ) (H':=?R7) I (g':=s.gens) (d':=s.drawn) (ch:=?v3) (?cF) (fun b o _ _ hb z _=>?yK) (fun b o _ _ hb z _=>⟨?nX,?yK⟩) (fun b o hb z n=>?_) (fun b o hb z=>⟨o,?yK⟩)
     (fun b ys z=>?FV) (fun b o v z=>?FV) (fun b ps z=>⟨#[],by rw[Ai (T8 b _ z),z];simp⟩) ?pQ (fun b v z=>?_) ?bB
    . ext s5
      . exact⟨fe.2.2.2.1,fe.2.1,fe.2.2.2.2.1,fe.2.2.2.2.2⟩
      . ext BE
        subst z;exact⟨fi.2.2.2.1,fi.2.1,fi.2.2.2.2.1,fi.2.2.2.2.2⟩
    . rw[Ai (qd1 (qb2 z))];exact n
    . ext BG;exact⟨o,es',ep,kk _ o fe.2.1.symm fi.2.1.symm ho,r⟩
    . by_cases hb:?Z4 b
      . subst hb;rw[Ab]at z;cases z;exact⟨(?YZ 2),[?R2,u],?E ?fR (?E ru ?u),?MD⟩
      . rw[Ai hb]at z;refine(?aT b v z).stay (fun c y hc' q=>?_) (fun c q=>?QC) fun c ys q=>?QC
        ext BM
        . exact kk _ _ (?HQ).1 (?HQ).2 q
        . exact kk _ _ (?oE).1 (?oE).2 q
  . have lb:?IX:=by
     ext s5
     . exact lte
     . ext BE
       subst z;obtain⟨o,z,_⟩:=h2;exact qb2 z
    rw[?wY];exact(?k9).1
 done:=by
  ext d1;ext s2;ext TV;ext gE;have hl:=rv.length;exact wpAny_pyNext_enum_end ?dF h1 h2 ?a8 ?jB fun h' eb=>⟨rfl,?WU (fun b o hb z=>eb b o hb z)⟩
 self:=fun _ _ _ _ _ st h=>by
  ext s2;exact qu0 h1 h
inductive sM[?d][?s3]:Prop
 | mk:∀a,(vs=?dX)->?YV (?iB) ?HH
def Ap7[?d](ta:TA):TI:=?WB ?HH
theorem Xq:?Y4 ?fN ?fN:=?bY
theorem T3{X:Cx}[?aG][?aJ][?sM]{a:Expr}{ta:TA}{p pos:Pos}(hg:Gl X ?fN)(hm:?eT ?fN=none)(ha:?JO)[?Z][?UM]:PI X ?oM (?WR ?fN [a]) (Ap7 K ta):=by
 subst hK;intro Ad s σ H R I h;refine Call_ (Mg I hg hm Xq (qg8 (Dq (ha pos Ad s σ H _ I h) fun us s1 _z=>?_) hs rfl));obtain⟨vs,H1,I1,r1,q1⟩:=_z;obtain⟨l,e,⟨xs,hq⟩,q⟩:=q1;subst e;cases r1 with
 | cons r rr =>
   cases rr;cases r;obtain⟨its,rv,pl,hz⟩:=?qK hq;refine call_enumerate_list ?hD fun h' hen hit hsz hk=>?_;refine qu0 hen ⟨?vI,[?vI,s1.heap.objs.size],_,_,H1,rfl,?JU,LS l _ _ (qt5 _),⟨?RC,hit⟩,?cF,q⟩
   have lb:s1.heap.objs.size<=b:=by
    ext s5
    . exact ?o9
    . have z:?RB:=?eX
      rw[z];exact ?cO
   exact ?vZ lb (?lV lb)
section
variable[?mM][?iR]
theorem bQ[?f3][?f0][?AX]
 (hs:∀i x ys τ H p,?b0->?dI->?a04 τ ?v6)
 [?m4]:?W1 (?iB) tc:=by
 ext AJ;rintro i m ys τ H ⟨rfl,hi,pp⟩;have q:=hl i ys τ H hi pp;ext iV
 . ext AG;obtain⟨p,v,hp,rfl,rfl,y⟩:=y;exact hs i v ys τ _ p ?rB pp hp
 . ext iX
   subst e;exact ?i ⟨?pT,hd ys τ H pp⟩
theorem Z7[?f3][?rS][?UT]
 (hs:∀i x σ H p,?b0->?dE->?a04 σ ?qY) (hd:?GW) :
 ∃W:?hQ,?kG/\∀i m σ H,?i5 →
   (?X8 ?iB)\/(?VR ?iB ?iB):=by
 ext AK;rintro i m σ H ⟨rfl,hi,pp⟩;have q:=?J9;ext iV
 . ext AH;obtain⟨p,v,hp,rfl,rfl,y⟩:=y;exact hs i v σ _ p ?rB pp hp
 . ext iX
   subst e;exact ?X7 ?pT ?G0
universe e9
theorem Bo.turnedN{X:Cx}[?O]{h':Heap}{t':Nat}[?e0][?f](k:∀b o,b ∉ fp->?K3)[?iW] :
 ?zY:=by
 have z9:∀c o,?xP->c ∉ fp:=?K2
 refine ?nC (g':=s.gens) (d':=s.drawn) (ch:=fp) (?cF) (?X6 ?vJ) (?X6 ⟨?nX,?vJ⟩) (fun _ _ _ _ n=>n)
  (fun b o hc e=>⟨o,?vJ⟩) (fun _ _ e=>e) (fun _ _ _ e=>e) (fun b ps e=>⟨#[],by rw[e];simp⟩) ?pQ (fun b u e=>?_) ?bB
 . have f:=?k9;ext UC
 . ext BG;exact⟨o,es',ep,k _ o (fun z=>(hf _ z).2.1 rfl) ho,r⟩
 . refine ?RT (fun c y hc' q=>?_) (fun c q=>q) fun c ys q=>q;ext BM
   . exact k _ _ (z9 _ _ e) q
   . exact k _ _ (?oE) q
def Itz[?d](a b:Addr):It :=
 ⟨fun i H=>∃xs ys x y,?bD/\?nP/\?b0/\?o6,
  fun i H v H'=>∃p x y,?aV/\v=?dG/\H'=?tI/\(?P2)/\∀ys,?nP->?o6,
  fun i H=>∃xs ys,?bD/\?nP/\(?vM\/ys.length<=i)⟩
theorem OO[?c7][?aJ][?sM](a b z TI TO i1 i2:Addr)(D:ZipApart z TI TO i1 i2 a b) :
 Wf P w K ?oM (?hZ) ?p8 z (fun i h=>IsZip h z TI TO ?b2/\?rO h TI ?EU ?FL/\(∃c d,?rO h TO c d)/\?vE i1 a i/\?vE i2 b i) where
 mem:=?Q
 obj:=fun i h st c hc=>by
  obtain⟨hz,hTI,⟨u,v,hTO⟩,⟨o1,h1,c1,d1⟩,⟨o2,h2,c2,d2⟩⟩:=st;ext BB;ext B0
  . exact⟨_,hz,fun v q=>by cases (show ?yS from q)⟩
  . exact(?YO hTI ?LX)
  . exact(?YO hTO ?LX)
  . exact⟨o1,h1,fun v q=>by rw[d1]at q;cases q⟩
  . exact⟨o2,h2,fun v q=>by rw[d2]at q;cases q⟩
 keep:=fun i h h' st k=>by
  obtain⟨hz,hTI,⟨u,v,hTO⟩,h1,h2⟩:=st;exact⟨k z ?q _ hz,k TI ?q _ hTI,⟨u,v,k TO ?q _ hTO⟩,h1.at fun o q=>k i1 ?q o q,h2.at fun o q=>k i2 ?q o q⟩
 item:=by
  ext d1;ext V1;obtain⟨xs,ys,x,y,Xm,mT,hx,hy⟩:=hg;ext TM;obtain⟨u,hu,ru⟩:=ra.get hx;obtain⟨v,hv,rv⟩:=rb.get hy;ext TY;have ltz:=qb2 hz;refine wpAny_pyNext_zip_item D hz hTI hTO h1 h2 ?tK ?wN (x:=u) (y:=v) ?n9 (?lP) fun h' hz' ZR GY h2' htup hsz hk=>?_;refine⟨_,rfl,wpAny_letOwnedTupleGo_zip hz' fun h3 hz3 Pa=>?_⟩
  replace Pa:?jH z h' h3:=Pa
  have kk:∀c o,?JY->?bI c=?r->?pU c=?r:=fun c o hc e=>by
   ext TJ;exact(?cN c n1).trans (?SD)
  have UY:?YN u v:=(?cN _ (qk6 ltz)).trans htup;have hi1:?w8 i1 a ?aH:=GY.at fun o e=>(?cN i1 D.i1z).trans e;have hi2:?w8 i2 b ?aH:=h2'.at fun o e=>(?cN i2 D.i2z).trans e;have zS:?rO h3 TI ?EU ?FL:=(?cN TI D.TIz).trans (hk _ _ D.TIz D.TITO D.TIi1 D.TIi2 hTI);have zR:?rO h3 TO u v:=(?cN TO D.TOz).trans ZR;have z9:∀c o,?xP->?JY:=?K2
  have T8:∀c o,?xP->c≠s.heap.objs.size:=fun c o e=>Ao e ?oY;refine⟨?eL,?FP,?_,rfl,⟨?z,x,y,?oY,rfl,rfl,fun zs q=>by rw[?rL q Xm];exact hx,fun zs q=>by rw[?rL q mT];exact hy⟩,⟨hz3,zS,(?YO _ zR),hi1,hi2⟩,?xO⟩
  . refine Bo.step (s:=s) (h':=h3) (t':=s.toks) (H':=?FP) I (g':=s.gens) (d':=s.drawn) (ch:=?p8) (?xO) (fun c o _ _ hc e _=>?u7) (fun c o _ _ hc e _=>⟨?nX,?u7⟩) (fun c o hc e n=>?_) (fun c o hc e=>⟨o,?u7⟩)
     (fun c zs e=>?J7) (fun c o w' e=>?J7) (fun c ps e=>⟨#[],by rw[Ai (T8 c _ e),e];simp⟩) ?pQ (fun c w' e=>?_) ?bB
    . have f:=hf c hc;ext UC
    . rw[Ai (qd1 ?eR)];exact n
    . ext BG;exact⟨o,es',ep,kk _ o (fun q=>(hf _ q).2.1 rfl) ho,r⟩
    . by_cases hcs:?Z4 c
      . subst hcs;rw[Ab]at e;cases e;exact⟨(?YZ 2),[u,v],?E ru (?E rv ?u),?MD⟩
      . rw[Ai hcs]at e;refine(?aT c w' e).stay (fun c' y' hc' q=>?_) (fun c' q=>?SL) fun c' zs q=>?SL
        ext BM
        . exact kk _ _ (z9 _ _ e) q
        . exact kk _ _ (?oE) q
  . have lb:?XP c:=by
     ext BB;obtain⟨o1,q1,_⟩:=h1;obtain⟨o2,q2,_⟩:=h2;ext B0
     . exact ltz
     . exact qb2 hTI
     . exact qb2 hTO
     . exact qb2 q1
     . exact qb2 q2
    rw[?wY];exact(hf c hc).1
 done:=by
  ext d1;ext V1;obtain⟨xs,ys,Xm,mT,hx⟩:=hg;ext TM;have la:=ra.length;have lb:=rb.length;refine wpAny_pyNext_zip_end ?dF D hz hTI hTO h1 h2 ?tK ?wN ?_ fun h' hk=>⟨rfl,I.turnedN (t':=s.toks) (fp:=?p8) (fun c o hc e=>?_) hf⟩
  . rcases hx with q | q
    . exact ?i ?jB
    . exact ?g ?jB
  . ext TJ;exact ?SD
 self:=fun _ _ _ _ _ st h=>qv1 st.1 h
inductive xO[?d][?s3]:Prop
 | mk:∀a b,(vs=[?aB,?pV])->((∃xs,SqL K H1 a xs))->((∃ys,SqL K H1 b ys))->(R (?hZ) H1)->?IQ
def Ba2[?d](ta:TA):TI:=?WB ?IQ
theorem NU:?Y4 ?fX ?fX:=?bY
theorem CH{X:Cx}[?aG][?aJ][?sM]{a b:Expr}{ta:TA}{p pos:Pos}(hg:Gl X ?fX)(hm:?eT ?fX=none)(ha:?OD)[?Z][?SY] :
 PI X ?oM (?WR ?fX ?b1) (Ba2 K ta):=by
 subst hK;intro Ad s σ H R I h;refine Call_ (Mg I hg hm NU (qg8 (Dq (ha pos Ad s σ H _ I h) fun us s1 ⟨vs,H1,I1,r1,q1⟩=>?_) (by rw[hs,hs2]) (by rw[hs2];rfl)));obtain⟨la,lb,e,⟨xs,Xm⟩,⟨ys,mT⟩,q⟩:=q1;subst e;cases r1 with
 | cons ra rr =>
   cases rr with
   | cons rb rr =>
     cases rr;cases ra;cases rb;obtain⟨ia,_,pa,_⟩:=?qK Xm;obtain⟨ib,_,pb,_⟩:=?qK mT;have a1:la<s1.heap.objs.size:=by obtain⟨_,e,_⟩:=pa.isList;ext b6
     have a2:lb<s1.heap.objs.size:=by obtain⟨_,e,_⟩:=pb.isList;ext b6
     refine call_zip_2 ?tK ?wN fun h' hz hTI hTO hi1 hi2 hsz hk=>?_;refine qv1 hz ⟨?NI,[?NI,?XF 2,?XF 3,s1.heap.objs.size,?vI],_,_,H1,rfl,?JU,OO la lb _ _ _ _ _ (zipApart_new a1 a2),⟨hz,hTI,(?YO _ hTO),hi1,hi2⟩,?xO,q⟩
     have lc:s1.heap.objs.size<=c:=by
      ext BB;ext B0
      . exact ?r6
      . exact ?r6
      . exact ?r6
      . exact ?cO
      . exact ?r6
     exact ?vZ lc (?lV lc)
section
variable[?mM][?iR]
theorem gM[?aG]{a b:Addr}[?gL]{n:Nat}[?VM][?f0](hl:∀i zs τ H,i<=n->?yM->?I3)
 (hs:∀i x y zs τ H p,?b0->?o6->?yM->?aV->g ?aO τ (?tI) fun τ2 H2=>tc τ2 H2 fun b H3=>if ?k4 then te τ2 H3 fun y H4=>H4 D=?c (?x zs)/\zs.length<sizeLine/\Pv ?aH ?PE τ2 (upd H4 D (?x ?PE)) else Pv ?aH zs τ2 H3)
 (hd:∀zs τ H,Pv n zs τ H->Q H):?W1 (?hZ) tc:=by
 refine⟨fun i m zs τ H=>m=n-i/\i<=n/\?yM,?wA,?_⟩;rintro i m zs τ H ⟨rfl,hi,pp⟩;obtain⟨qa,qb⟩:=hl i zs τ H hi pp;by_cases hlt:i<n
 . refine ?XT ?EZ ?L2;obtain⟨p,u,v,hp,rfl,rfl,y1,y2⟩:=y;exact hs i u v zs τ _ p (y1 xs qa) (y2 ys qb) pp hp
 . have e:i=n:=O9m
   subst e;exact ?i ⟨?DD,hd zs τ H pp⟩
theorem vE[?aG]{a b:Addr}[?gL]{n:Nat}{g:TG}{tb:TS}{D:Ends}{σ:St}{H:Hp}[?VM](Pv:?mU)(h0:?RF)(hl:∀i σ H,i<=n->?dE->?I3)
 (hs:∀i x y σ H p,?b0->?o6->?dE->?aV->g ?aO σ (?tI) ?qY) [?VG] :
 ∃W:?hQ,?kG/\∀i m σ H,?i5 →
   (?X8 ?hZ)\/(?VR ?hZ ?hZ):=by
 ext TG;rintro i m σ H ⟨rfl,hi,pp⟩;obtain⟨qa,qb⟩:=?J9;by_cases hlt:i<n
 . refine ?XT ?EZ ?RJ;obtain⟨p,u,v,hp,rfl,rfl,y1,y2⟩:=y;exact hs i u v σ _ p (y1 xs qa) (y2 ys qb) pp hp
 . have e:i=n:=O9m
   subst e;exact ?X7 ?DD ?G0
end
mutual
#check(4,[?a,?b,(?uJ),spot,some,if_neg,(?iB),∀{t:?u},a,(i+1),Nat->Int,prodN,wpAny,if_pos,?f ?c,.ref,.int,addR,?m rfl,(t l),List,Nat->Nat,X.env,2 ^ c,blendR,2 ^ b,beside,(?xU),∀{f:?j},a,(-1),.(by grind),(n+1),this,∀(f:?j),a,∀(t:?u),a,(t j),?e o,In.row,.inl,(?VD),shrS,(j+1),2 ^ π,moveR,s.heap.objs.size,sumN_all0,∀(R B:Mat),a,s.heap,.nil,(?bK),.type,?m ?c,h.pos,∀(I:?JB),a,.(by exact this),sumN_one,.inr,(?a2F ?_),decide,(t k),.lst,(model prog w),.(by split<;>omega),A.fdiv B,R j ?I,?o a,funext,T k k,.none,qa8 _,∀{n W w i:Nat}{G:?aN},a,r<=j,kv.1,(?aG),(R,B),.tup,Nat->Prop,(i-d),IsPair,Cm ne,unit,RelV,h.zero,V.int,(c+1),Good,?f e1,∀(hp:p<n)(hq:q<n)(ne:?g5),a,∀{P:Program}{w:World},a,∀{K:W.Frag},a,∀(n w:Nat),a,eval,r<=n,lookI,D i j hi hj,.cons,(s l),p.1=k,?o b,(A p),2 ^ (2*π+1),∀(ms:?e6),a,∀{kvs:?c7},a,.(by by_cases e:j=k),(by ext a9),?m e,(p+1),Mat × Mat,fun c hc=>?_,.(by simp),I.hok,?t V,.Call,(?g1 t i ?e0),R r c,∀{A:Around}{E:?P7},a,∀{G:?aN}{M B0 R B:Mat},a,.(by simpa using hb),?k f m,h.old,(f i),(?s9),(?c3),Al f n,A p c,false,T k c,(i-?A),De O9m,H.hi,Bits,(k+1),?t (?sD),r<=i,?f e,apos,.Attribute,∀{Q:?P7},a,∀{ms:?e6},a,.(by intro z;cases z),.(by rw[this];simp),.(by rw[?eH]),.(by unfold moveR),(?z w T P),h.inc,IsZip,(t i),fun _=>0,R p c,2 ^ β,(i-(e+1)),?a52 A,(1:Int),ih O9m,(?g1 t ?d st),z.symm,j<=i,T' k k,H p=none,∀{X:Cx}{Ad:Bn}{σ:St}{H:Hp}{s:Shared}{a:Addr},a,∀{kt t:?u}{hd:?j},a,.(by rw[?n]),∀{f:?dD},a,∀{R B:Mat},a,(A q),s.heap.IsTuple,?m z,kvs.map,(tr T),w1.extBut,downS,(?yZ),G7 ne,t ?d,Nat->?j,r1.fdiv r2,?o ?R,(w+a),(0:Int),(f+d),(?aC),Value.ref,?e v,kV k,f i / g,(d+1),∀{C:?aN}{δ:Nat},a,∀{s:?bI},a,∀{n p q:Nat},a,.(by exact ?iB),∀(K:W.Frag),a,∀(hp:p<n),a,i-d+1,[it],put2,Ej π b r,spot<l,(kt i),(w+n),?a4S t d,(?gM).natAbs,(?k6),Pc kvs k,?t (?pG),starEach,R j c,hx c hc,Pa.2,(k,v),Part,fun r c hr hc=>?_,(?fP),.seq,?t Addr,?f z,(qg7 ?p7),Pv i zs τ H,hst.lt,h.low,(-q),(e::es),value,?t Expr,(model ?hM X.w),.(by intro X hP hw hK hc i Ad s σ H E I hf st hg;subst hP hw hK),∀(H:?vQ)(h:?z3),a,∀{prog:Program}{w:World},a,∀{R0 B0 R B:Mat},a,∀(a b c d:Int),a,.(by simpa using e),.(by rw[?d5]),∀(hs:spot<i),a,∀{s:Shared},a,∀{n w:Nat},a,U k c,keep,?k f n,r≠p,(tr R),(Q c),(?dV),(?a11 T ?I),Itm d o,r<=w,R' p ?s,(a==sysModules)=false,(?TM),Value.isInt,.fields,R i c,dd.typeIs,rel.val k,(?kS),Hp->Prop,(?x0),(?aB).natAbs,?e x,addR_row_ne,kt j,(s c),.(by ext h2),(?q0),T i c,R' p ?I / ?aB,call,Su f ne,ns.map,?b4 ms k,Jq n f,(?i2+i*?j2),insT,?t Key,(?WB),?t Int,p≠q,(pb R t k ?iX).natAbs,h.st.lt,Bv e,cS π i,addS,(fun r c=>R r ?fQ),(?zL),"dict",(?kL-1),?f e2,R k ?a6,fun j c hj hc=>?_,qc1 _ rfl,cpos,i<=n,v ?I,R l ?s,w3.extBut,?k f k,T j c,(?a4N h O9m),hst.zero,fun p=>?JH,ObjOk,∀{kvs:?j7}{vs:?a22 κ Value}(r:?hH),a,∀(h:?MD),a,.(by refine qs3.mp ?FE),∀(bb:?LK),a,.(by refine qi8 ?p7),∀(R:Mat)(p q:Nat),a,∀(s:?bI),a,∀(ry:?aS y u),a,.(by simpa using q),∀{i j:Int},a,Itk d o,(?o D),?e p.2,?k ?f8 i,Rows,2 ^ η,H.part.inc,kvs[i]?=?xJ,Pv i σ H,R ?fJ (t ?fJ),V r c,?m e2,fun _ _=>rfl,KV kvs vs,(?pU).1,(?o z),(j-1),?a0T e,X.prog,Uk ?bL e,fun l h1 h2=>?_,Option,(?pD),?jA H H',h.red,h.gc,2 ^ δ,k+m<i,?f h,Pv ?i,T r ?fQ,R k c,as.map ?rP,Shared->Prop,b+i+3+2*π,{ s with heap:=h' },(G9 R p),fun j hj=>O9m,R ?d c,?fG=0,.dK [],.builtin,qa5 ?_,qa1 _,"zip",Bv ?c,(n+w),.Name,Array ?nM,R j ?s,S.same,call_meetsIn,ms.map,?bY+f n,(?kT),(?oP ry),fun _ _ _=>rfl,j=spot,(?bP).natAbs,i≠j,Sum.inl k,A r c,(r-1),d<=i+1,IntMulOk,(n-k),Xc s r c,?m e1,spot<r,(L+2),(π+1),hd j,?k (?a11 T' ?I) r,X.mg,(R j),?a22 κ V,insS i ?d st ?aL,.(by ext bS),Same,f<=j,∀(n W w i:Nat)(G:?aN),a,.(by rw[move_row];unfold mvI),.(by rw[←Bg,←Bg,←C4]),∀(e:?qT),a,∀(x:TA H r as n W f),a,∀(h:?lK),a,∀(hi:i<n)(hs:s<=i),a,.(by by_cases e:?b8),.(by exact True.intro),∀(ok:?G8),a,∀{n W w r i:Nat},a,.(by by_cases e:j=p),.(by by_cases e:r=p),.(by exact qh8 _ g0),?e u,D.nx σ H,(B5 A p u),blend_row_p ne,β+(π+2),c<=?dC,?e (?kI),ih ?c,(f j),?a58 e,(?o8),u ?aV,(β-(η+1)),(?KQ),I.hok.fresh,Al _ n,?o p,j<spot,(?sW),S1.same,h.st.pos,(cK ms),Iz [] kvs,(?u2).get?,fun b hb=>?_,h'.get?,.(by simpa using e1),?e _,.frz o ?bW,Pb es ms,Z r c,(n:Int),H' a=?jW,?iW i j,Str->?m9,?k ?mS i,h x y hx hy,.(by simp;omega),k+1+m,?Q R i s,.(by decide +kernel),qa2.mp,(?xQ),absurd,w2.extBut,x k*?gG,H d=?jW,h.ker,"range",?g1 t ?d st j,(?q P i j 1),?Z j O9m,Rd H a ?bW,r1-?dE*r2,?DO<0,?K hj,?aJ=k,R r x,(f+m),(m+1),?o t,?X "tuple",2 ^ ?zK,(?MJ),h'.IsTupleIter,.(by ext eW),Ft n w r E e T,(fun j=>?aB),⟨h1,h2⟩,(t ?dI),x1*y2-x2*y1,R.row j a e,T j j,b*f x,?a2A kvs.length,fun x a=>R x ?dG,No k k,Al (fun i=>Tg i*A i 0*?OS) ?E,R i x,(fun c=>c<w),(upd H' a ?bW),2 ^ ?j2,a m*U m c,fun x a=>S x (n+a),pb R t k m,hst.ge,(β+?mU),Di w r T' t,(?o it),s.heap.get?,A / g,?hP ?nM,(n-1-k),?QM n w T,?f ne,∀i c,?c8->?P3,(i+d),?a22 TE TE,?q0<=i,qf4 _ _,ChainAt,?k ?mS j,(?l9).congr,Nr n w k T,R' p c,R.free,St->?fK,[?aC],h.st.inc,Al g n,(?p6),?k ?f8 ?i,cM π i,?a22 ?g2 V,∀(K:?AU)(h:?US)(hi:?c8),a,∀{A B r1 x1 y1 r2 x2 y2:Int},a,∀(kvs:?j7)(k:κ),a,∀{n w r:Nat}{E:Nat}{e:Int},a,∀{R B:Mat}(h:?R1),a,∀{R:Mat}(h:?a3Q b R),a,.(by rw[?Y]),∀(R:?a30 H1 as),a,∀{es:?t ?qU},a,.(by by_cases e:?iP),.(by simp[Value.isInt]),∀{w r:Nat}{R:Mat},a,∀{π b spot:Nat},a,∀(h:?LV),a,∀(u v:?j),a,∀{es:?eP},a,∀{i:Nat}{R:Mat},a,∀{y:V}{u:Value},a,∀{G:?aN},a,∀(h:?GO),a,∀{o:?hP V},a,h1.2.2.2.1,intKind prog w,?aE=0,h n O9m,(i+1+m),Value,(Ityp K a b),∀x∈ns,x.natAbs<2 ^ Qq,(h<=1000),(w<=1000),fun j c hj=>O9m,{ s with heap:=h',toks:=tk },M a ?I,K5 R t i r,Heap.SameBut,I.laid,?N t p f s m,fun j h1 h2=>?_,?fD+1,fun i hi=>?_,(tr No),.ellipsis,?cQ=0,H D=none,?WV*h,2 ^ e,(?zC),fun j=>?lQ,its.toArray,hst.pos,(hr.mono hk),s.heap.push ?U6,A-?aA*B,Ne.symm,?m7 b=?J,.ad i j n,(?o i1),K.pos,bb.2.1,(?qJ),(-(?a18 m (t ?fJ))),s2.bwd,qq4.mp,t j<t k,kV_is,(?o i2),?p n,(?lJ),field,(?KR),?o l,hst.inc,this.table,Ed K H a xs,Gg π b i,(dT h w f),.(by ext tD),?a5B ys y,?B2 vs k,?X ?iC,(-(b*q)),fun l=>?gM,fun z=>?_,(kvs.any ?wL),In.zero,2 ^ m,(?wR),(∀c o,c≠z->c≠b->c≠i1->c≠i2->?LM),?a48 h,?X ?wS,Itd hi n,Int × Int,?eC R t f m,?a4J ?Z,qe9 ?M O9m,up c _ q ?qY,2 ^ 64,e.symm,?N t p ?A ?aL d,backTo,w4.extBut,h.tab,Al _ ?E,(by kernel_rfl),(v:V),?N t p f ?aL d,(?IR),(?j9),(w+c),h1.symm.trans e,qj9 O9m O9m,?xU+d,lo<=n,H b=?jQ,Xc s j c,xs[i]?=?fN,hfresh,qf3 ..,I.bare,?a13 1,?k f' m,h.st.zero,if i=j then 1 else 0,upd H a (?kI),?a4J ?oA,[a,b],?f (?MK),?bM->Hp->VK->Prop,(f:?dD),[z,TI,TO,i1,i2],qb7 ?_,Al f j,?a4U c b,h _ O9m,?a0E ?f1 m,Jd n w r e T,n<=1000,fun k=>B k a*?uK,?t Str,fun a c=>?HP,H a=?e ?bW,DictEntry,?m a1,?P*?e3,?p i,(by ext cE),s1.heap.push,h c hc,?hD*?m2,(i:Nat),(tr S),?a5B ts t,h3.get?,(by rw[e];ext jK),Int.mul_pos,2 ^ 61,?a58 o,prs.drop,(tr A),?k f ?rU,?a4S ?bO d,(?c0,?a58 b),fun l hl=>?_,?a4T r c,h.st.red,Good.refl ..,Wz kvs k,w5.extBut,2 ^ (j-f)*μ*?e3,(?TB),?m h,i+1-d,V.ref,x.2.1,?t (?IT),K5 R t i ?cP,?a0I i j,(m+d),(by unfold cM;omega),(K:Int),Hm ?F,i<=kvs.length,?f3*f n,(?wI),(u l),fun k hk=>?_,Sum.inl p.1,2 ^ Y,h.good.rest,Ed K H b ys,∀j,j<r->?lQ∣e,h.good.trans,.dK kvs,t k=k,?t ?nM,slice,Key × V,?f a1,spot<=i,Shares,?k (?SL) m,?e ob,Al (?qQ) i,[e,f],(?mJ).natAbs,fun x hx=>?_,(I.tok _),?vS hc,fun r l=>R r (aW t k c l),.bool true,?i2+spot*?j2,(?M9),0<?aB,base l h1 h2,pT n B R a b,VI n f,.bl true,∀(D:?JR z a b i1 i2 t1 t2)(gz:?a1W ?U ?aF)(ga:?aP ?U a ?oH ?oQ)(gb:?aP ?U b u v),a,∀(g1:?uC i1 t1 n) (g2:?uC i2 t2 m) (e1:?d4 t1 xs) (e2:?d4 t2 ys),a,.(by obtain⟨ho,hsys,hl,vs,es',SS,rel,hd',hsz,ex,hm⟩:=V3 I hz;rw[hd]at hd';cases hd'),∀{kvs:?mV}{xs:?yO}(r:?HJ),a,.(by repeat (first | rw[?r] | rw[?mC] | rw[?f ne'])),.(by have hn:es.size=vs.length:=by rw[hsz,rel.length]),∀{z a b i1 i2 t1 t2:Addr}{n m:Nat}{xs ys:?iG},a,.(by obtain⟨z,hd,vs,rel,dd⟩:=GG ?bL e),.(by refine⟨?a4,?a4⟩),∀{te:TE}{D:Addr}{Q:?fK}{τ:St}{H:Hp},a,.(by rw[?n,?r]),.(by rw[?f y,?n]),.(by rw[?m y,?Y]),.(by exact(show False from r).elim),.(by refine ?S ?rF),.(by rw[←rel.length];exact z),∀(hz:∀c,c<?dC->?i7),a,∀{a b c d:Int}(h:a*d-b*c=1),a,∀{n w r:Nat}{e:Int}{T:Mat},a,∀(he:0<e)(h:?qO),a,∀{vs:?rR},a,.(by refine Ak ?o0),.(by intro Ad s σ H Q I h),∀{D:Addr}{as:?eG},a,∀{D:Nat}(hD:Pe m G M D),a,∀(h:Heap)(a b:Addr),a,∀(wZ:∀c,G c->c<W),a,∀{R:Mat}{p q r:Nat},a,∀(f:?dD),a,∀(R:It->?fK),a,∀{n p:Nat}{A:Mat},a,∀{R B R' B':Mat},a,∀{X:Cx}{pos:Pos},a,∀{n W w i m:Nat},a,∀{M B0 R B:Mat},a,∀{n W w lo:Nat},a,∀{kt:?u},a,?f h2,Nat->?mO,(?l9).mix,XT ?U a b,h.prod,?e7 ?eN ?v,run d hd,"StopIteration",?a10 H s',2 ^ b0,Al (fun k=>x k*?a0V (U k) q) m,fun r x hr hx=>?_,2 ^ (j-?A)*μ*?y,s.heap.IsTupleIter,i=kvs.length,?a20 p (?aM [x,y]),?aR e j j,?m hr,attributeBase,X.base,.(by omega),R k ?I,fun j hj hne=>?_,[a,b,c],U0 ?U a ms,fun r x=>?_,?a21 a ?k8,Builtin.SmallTypes.nextOf,?a0E ?c1 m,fun i=>?GQ,if j=i then 1 else 0,?f hne,mvI i s r,Iz kvs more,kk c o hc e,(?l7).natAbs<r2.natAbs,?a56 y1,Ew n w T T',a*u c+b*v c,"dict.update.loop",backToKw,∀j,j<r->t j=j,N9 kvs k v,fun j h1 h2=>O9m,s.1 j ?I,(?o j),Addr->Prop,(i-1-k),?Z k hk,Al (fun j=>(?gL*?mJ)*?FJ) i,us.length=h,D i i hi hi,h.st.s0,h.partOf,fun y=>hne y.symm,2 ^ (z-2),qe8 _ O9m,Ak ?s2,List.range',?e7 es ?v,Nt K fd ps []/\Bw P w K mg base Ex k f fd ps sp,(?pN).1,.(by have:=h.pos;omega),Kd n W w i G R0 B0 t π b,?a33 h.pv,beside_lo,(j9▸hi),∀k,k<n->0<f k,rawInt,fun d hd=>?_,g x σ H' fun σ2 H2=>tb { D with nx:=N,ct:=N,bk:=D.nx } σ2 H2,?a46 ?i R0,#[key,p.2],sq.flip,?a52 (Gq A ?bH),.(by simp<;>omega),?b4 ns j,fs.findIdx?,fun k hk=>O9m,?a56 y2,?a48 ?hT,?m hj,H a≠none,x2*r1+-x1*r2,?a5F ?W1,h.col0,In.sum,I1.kept,h k c hk hc,R i ?a6,?m e3,?gA i ?d ?eM ?aL,D j j hi hi,q.natAbs<=?P,fun kv=>?a5 (?lA),?aS (?dM) u,o.data=.dict es ep,qg6 ?M O9m,EX T s k,(?zL).is,(?a26 R),"list",K.head,id hin,?N t p f s d,?a16 i,?p 0 0,holding [ov] (getMethod ov m pl),Array ?qU,?a0T ne,getItem,R0 r c,?a20 p (?aM [?dM,v]),"keys",CZ ?bL eb,?A7 hx k kr v0,S j (u j),y.natAbs<=?P,?p (hi-i),(κ*D),.(by rw[h,qd5]),?a13 2,(?j8).1,0<=?uK/\?uK<?aB,?k (fun l=>f (k+1+l)) ?mA,kk b ob hb z,(?j8).2,standAt apos.atName,?e ?eB,moveS i ?d x,(?a18 ?iX c).natAbs,h.detsD,Al (fun k=>a k*?f1) m,fun k hk hne=>?_,fun k _=>?_,fun r l=>R r ?s,Qn hA hB,I2.thaw e2 hb,?a0M R' B',spot+1,T' k c,?f x2,(f k).natAbs,2 ^ i*μ,?BG e2 e3,Dc e c,ms.length==ns.length,Kp H H1,?aR (?mT) i d,?f e3,(h w:Nat),h.s0.inc,(?lP).2.2,R1 r c,Ec (?a0G l spot) (?a0G l i),one j c,?m ?M,?f x1,∀l,?dZ->l<i->?dC<t l,Al (fun k=>a k*?a0J (U k)) m,r2≠0,Str.ofString "__next__",.(by rw[eA];ext jP),.bool ?c0,Nat->?u0,Builtin.Int.intBits,?f e4,2 ^ 9000,No k l,?t (?g2 × Addr × Value),tPairs,?a5I (?e2) m,(?kP).natAbs,?a3F R v,?m a2,s₁.heap,H b=?e (?aM (k.map kV)),.(show b+c+1=(c+b)+1 by omega),fun h' JA hs=>h _ ?_,r1≠0,mixKind ?hM X.w,aC.zero,wpAny_callSpecial?_slot,∀j,j<r->t j<w,Dt n W w i G R0 B0 t π b ?d R B,fun y a=>R y ?dG,.(by rw[←qe1];congr 1;omega),c<t j->?e8=0,(f,first),gF ?bL e,?Q B i ?d,as.length=h,.(by simp[hlt]),blendS ?d i x y z u ?aL,po x x1 x2,?t (?hP Expr),β+i*?mU,A.handled=none,.(by simp at e),stored,k5.objs.size,(β+c),mixKind P w,?dX f i j x ?jY,Nat.log2_lt,?k ?k0 k,fun _ _ x=>x,?a4J st.lt,⟨y,H2,I2,ry,q2⟩,?x R ?d i x y z u,Rd H a (.dT kvs),(?a4L rfl),?k ?f8 ?c6,ib.toArray,spot≠i,?m hi,?a52 (Gq A p),s.TypeIs,?a1J EuA r2,?a18 m ?s,?f a2,values,I.turnedN,s.free,hst.lead,up b _ q ?qY,.Subscript,⟨fun j k _=>?mQ j k,fun j c _=>?qA j c,fun j _=>?kA j,fun k j _=>?rH k j⟩,Al (fun j=>a j*U j c) m,M k ?eE,?a16 p,?a13 3,2 ^ (zz-2),R i ?pX,?rO<=r/\r<i,?m7 c=?J,fun σ2 H2=>tb { D with nx:=?hX,ct:=?hX,bk:=D.nx } σ2 H2,fun _ _ _ _=>rfl,?k _ m,?a13 4,.(by ext C7;ext a9),r=spot,T i d*X d j,w+n<=W,W i m σ H,{ cls:=?X "dict_items",data:=?fF #[?o d] },x m*U m c,?a12 W M,ia.toArray,fun c xs q=>?pK,?b4 ns k,tupleKind,K.zero,⟨_,?gI,rfl,rfl⟩,B.fdiv r2,valueAt,((0:Nat):Int),?a4P k,(i-1-j),?a4S t 0,d.name,h.back x hx,?A0 ?dJ ?gD,(?c0,?jZ),(K w.params).In,kvs.length,Nq.some_of,?k f ?E,A a b*q b,blend_row_ne,(?pO pos (?vM)).any,pT n B0 M a ?I,fun x H' y=>?_,?f ?EC,Q (?sX) H',?a54 ?d ?o7,?k ?f8 r,Ak ?xP,(zt4 ?U a b).objs.size,x.natAbs<=?P,P.zero,.(by have t2:?g1 t i ?e0 i=kt i:=?NO),.(by have D:∀i j,i<n->j<n->?S5=?qB:=h),.(by have he:?PV:=?VF),.(by obtain⟨σ',H',I2,e2,q⟩:=hq;exact⟨σ',_,?xS,q⟩),.(by rw[?n,?n,?n]),∀(h:∀l,?dZ->l<i->?VO),a,∀{x y z u:Int}(e:LN π (?K0) (?QU) x y z u),a,.(by exact ?a3R x0),∀{i:Nat}{T:Mat}(h:∀r c,r<i->r<c->T r c=0)(s:?u),a,∀(hG:∀r c,?j0->r<i->G c->?XC),a,.(by rcases hc with rfl | rfl | rfl | rfl | rfl),∀(hq:∀k,k<i->(K5 R t i k).natAbs<?w)(hi:i<n),a,.(by have e':¬q.1=k:=?U8),.(by obtain⟨z,hd,vs,rel,dd⟩:=?hN),∀(mg:?kO)(base:Heap)(C:Addr),a,.(by unfold mvI;split;omega;split;omega),∀{C:?aN}{R:Mat}(h:R6 n C δ b R),a,∀(hu:X.A.units+1<cLine)(ho:?EF),a,.(by simp only[qc0,qf0,or_false]at hc),.(by obtain⟨f,fd,h1,h2,h3⟩:=h.ex),.(by rw[?gF,?n]),∀(hq:q<n){k:Int}(hk:?LG),a,∀{x:?bI}(h:?a0A β x),a,.(by have z:b=it:=?j9),.(by rw[?TX]),∀(hd:?a4B n),a,∀{Q:?m9->?i1},a,∀(A B r1 x1 y1 r2 x2 y2:Int),a,∀(h:?a2X n G),a,∀(ps:?qR)(k:Nat)(sp:Sp),a,.(by obtain⟨ok,ov,hit⟩:=st),∀(hn:i<n)(hp:p<=spot\/p=i),a,∀{T No:Mat}(s:?RH),a,∀{T T':Mat}(s:?v0),a,∀(P:?eC R t ?A i),a,∀(xs:?bM)(H:Hp)(Q:VK),a,∀(ns:?e6),a,∀{Q:Unit->?i1},a,∀(P:Program)(w:World),a,∀(e:?l6),a,∀(h:?IG),a,∀(hk:j<=k:=by decide),a,∀(hu:A.units+1<cLine),a,∀(hi:?ST),a,∀(hn:?zG),a,∀(p:Nat)(u:?j),a,∀(hA:0<A)(hB:B≠0),a,∀(hK:X.K=K:=by rfl),a,∀(ry:?wM),a,∀{x1:Nat}{tpos:Pos},a,∀(hij:i<j)(hj:j<m),a,∀{b p spot μ:Nat},a,i.natAbs<L9,hd zs τ H pp,∀j,j<r->?a3F T ?UJ,I.turned,Rw R t j ?B5 (t m),h.st.good.rest,.(by simp[e]),h'.objs.size=?q8,?e (?b9),?wQ k u=true,PE X i ty,.(by rw[Hs,Hs]),q*(x2*x2),fun l h1 h2=>?a33 h,R1 l ?s,?a51 (?qS) i,?a4T ?d st,aC.pos k kq2,Int.lt_or_gt_of_ne,hst.s0.low,K5 R ?bO i k,(dL n f),hM a _ ha (?a4J ?g7),?a4W ?dO ?yQ,(qk6 lz),Di w r T t,k5.IsTupleIter,Ew n w T R,h.objs.size,PE X e td,qm1 O9m O9m,h.IsTupleIter,Shared.heap,?c5 n n β B,Gw k X.A,(?a4N h ?c),Al (fun j=>(Al (fun d=>?AP) r-(?VY))*?gP) r,?a21 a us,g.typeIs,h.2 b hb O9m,?a0T hne,⟨q,hq⟩,?a0A (?zF) (?j8),PE X o td,ts.length=kvs.length,∀i c,?c8->?MC,if ?l8 then G9 ?pV ?d else ?IR,(?c0,?a58 c),?a3F R u,TA H' r as n W f,∀ob u,X.H₀ a≠?e (.frz ob u),?DD i c ?g,s₁.heap.get?,?a1W h' (?vV ?R),.(by simp[Pc,qo4,e]),.(fun b u q n z=>by rw[z,e]at q;exact n (qd7 q).symm),?a4J st.pos,k r c hr,⟨_,rfl,?_⟩,gW x vs H Q,{ s with heap:=h1 },hf it ?W,vs.any ?wL,⟨x,fun _=>hx⟩,Int.natAbs_mul_self,?lI i1 t1 ?E,y.natAbs*?hU,pT n B R a ?I,fun c=>- ?bZ,{ cls:=?X "tuple_iterator",data:=?fF #[?aC,?wX] },I1.tuple,?a18 m ?a6,D.s0.pos,.(fun v q=>by ext ZC),.(fun v q=>by rw[d1]at q;cases q),(?fX ?aU),Ab7 i t R,?a2C ?VA,fun y=>?_,?a4S t ?dO,Int.natAbs,⟨1,by rw[z];omega⟩,?a5 (q.1≠k)=true,Rw R t j ?B5 c,h.move hi hs,c3 r t iT hst hz,?a14 (?u4),(?cQ).natAbs,(β+?aV),fun kv=>(kV ?aJ,kv.2),(?a4L O9m),?a4J h.hd,Int.dvd_add,if ?l8 then MK ?d (?T4) else ?T4,?a4T ?d c,fun hr=>?_,ns.length<=n,ItDGet2 ty tx σ Q x H1,s2.keep h1.flip,fun _=>rfl,Wh n w T ?r3,d.params.defaults=[],?bL a _ e,D.TOi1.symm,x2.natAbs<=B.natAbs/\y2.natAbs<=A.natAbs,fun b hb=>(hf b hb).1,fun b u q=>?_,g3 q u hqw aC qQ,Ry P w H h,KT × Value,bb.1 r x hr hx,List.getElem?_range,x.natAbs*?hU,(?kC).length<=sizeLine,(?o ?zJ),y1.natAbs<=A.natAbs,?a2F ?l9,skip_prod,bs.map ?rP,Jq ?E f,(?AY ?gC).is,subscripted,∀i c,?c8->i<n->?QC,r.repl k ry,Jc i R t,upd H a ?bW b,dL w ?bV,e.val=?p v t',PySem.F.slot_dict_delitem,qk2 O9m m0,?e5=none,?cB o f pos',?iI j _ e,zero j c hj hc,LF n w k T,fun i H=>∃kvs k v,?l0/\?hB,?x R j q a b c d,nZ n w r L m T,Dc O9m c,Dq (?a4Y he) fun v s1 _z=>?_,qm2 _ gn,∃t,u=Value.str x t,∀m,m<d->?a5I s m=s,h1.DictOf,fun j c h1 h2 h3=>?_,B j a*?aB,(zt3 ?U a b).objs.size,.(by simpa using q1),Ec h1 h2,(?gL).natAbs,B q x*R q y,hst.mono,?a39 hc',?F i O9m,b1.mono ?rV,KT H kvs xs,List.replicate,h.s.same,?aR e j c,k*R q ?b7,Nat->?bI,if c<w then T a c else 0,?m7 b=?sI,h'.DictOf,Int.neg_dvd.mpr,wpAny_Call_method,?a21 b (VI w ?bV),Ue H Z a,(?J5).natAbs,fun r c hr=>?O2,if x=y then f x else 0,fun a ha=>?_,fun c hcw hne=>?_,h _ _ ?sN ?_,hx k hkn,if k=a then 1 else 0,G7 ne a b c d k,?a10 (upd H a (.dK (?rJ))) s',?a20 ?R (?aM [x,y]),?b4 ms j,?LE (?p x),qg1 _ ?c,hnew.typeIs,hx c ?c,j.natAbs<2 ^ n,pD n w R B i j,(?NP n).map,?y1&&?a0X ns,?a0A β s,.(by rw[Ai (T8 b _ z)];exact z),fun _ _ _=>False,fun l=>?iH,(?SH).map,e' j _ ?c (?zQ),(?j)->(?j)->Int,(?S3).natAbs,No (u k) k,LK xs H Q,I.base.frzs,?Q R i ?d,?a0E ?hZ r,Key × Value,?hT c hc,key r t iT hst hz,c*R p k+d*R q k,fun i j hi hj hne=>?_,?a1S (?gI),Pd n W w i R B t (?rO) (?e2).1 (?e2).2,?a1J EuR r2,.(by rw[qd5]),?cO<=?lG,B p x*R p y,ob.slots,?k ?mS k,Int.lt_trichotomy,fun k j h1 h2 h3=>?_,∀m,m<=n->∃r,r<=m/\?a4I m,∀j,j<r->u j=j,Re c η r d,?a10 H s,DK n*B ^ n,pos.line,h.step h2,GV xs H Q,(?vV ?zJ),?a5 (?b8),(?cN).natAbs,?a1Q w,IsD H1 a,?lS/\?fC/\∃vs,?hH/\h.DictOf ?gC a vs,Paired.length,?d4 b ys,⟨t,rfl⟩,?t Keyword,qe9 ?M h,ZipApart,PE X ?eO tv,.(by unfold G9;rw[Bq];omega),fun r c hr hc=>qb3 ?hQ (qe9 ?M hb),(?c0,?a58 a),zt2 h a b,?a57 ?wE ?QL,Bool->?i1,.(fun x=>by rw[h.rows,?n]),R ?d (?dC),PySem.F.args_dict_pop_3 _ _ _,congrArg,(?T5,?aU p.2),fun i H=>∃kvs,?l0/\kvs.length<=i,?k (fun l=>f (k+1+l)) ?iX,?E*DK n,Al (?qQ) ?mE,?a2 hr ?xO,h1.trans,h.good.restB,1*?cN+k*R q c,?a1U d s,F.entry_zip_next,∀l,l<i->G ?b7,(2*a).log2,dd.mapOf,x.natAbs<?w,Builtin.Range.rangeSize,((?z4) c),?wT i hi hn,fun j _ h=>O9m,∀j,j<i->?sT,.(fun c _=>by rw[Bv ne,Bq,Bq]),(?lB).natAbs,∀j,j<r->0<?lQ,I.ok.hd hc,N9 kvs p.1 p.2,Pb es.toList ms,B5 A p ?bA,?q R j q k,fun h' eb=>⟨rfl,?a1O ?dW (fun b ob hb z=>eb b ob ?pW z)⟩,qb6 _ ?bX,Q ?h5 H',e.natAbs.log2<=L,(y2*r1)*(-y1*r2),wpAny_setField,Int.mul_le_mul,?a0D ?a8 (?uQ ?v8),?a5A T (P x),.(by rw[Int.neg_fmod_neg];omega),q*(y2*y2),In w r R v,i*D<=?y,Al (fun c=>y c*?uR) w,?a1L 1,∀j,j<i->G ?I,?a3G ?cI B,(?a2C ?KB),sI K R vs H1,WData.weight,(?AC).natAbs,k.natAbs<?w,Heap.IsTuple,⟨?aG,?aG,?i5,?nR,fun i j _ hj=>O9m⟩,⟨kvs,q,?iB⟩,?a0A β ?aL,⟨o,ho,r⟩,?AI->?kF c=?J,qm8 pk d2,?a5 (p.1≠k)=true,?a1W k1 ?o2,fun i c a b d=>?qA i c b (by have:=h2 i a b;omega),h3 r t iT hst hz,Lat.Bits,r1.fmod r2,Sem Bool,Di w r R t,(r-k)*?j1,⟨i-1,O9m⟩,(?j3).natAbs,h.s0.pos,xs[n]?=none,.(by show ?dH<1;decide),?a3D (T8 c _ e),Int.ediv_nonneg,⟨rfl,rfl⟩,R0 j ?I,PySem.F.entry_dict_get,?k ?f8 ?dO,?k9 l _ ?c,?a3P v ?p0,D.TOi2.symm,?a0V p q,i<n->?VR,?a2X i G,⟨O9m,O9m,?L rfl,fun d h1 h2=>?lM⟩,?a13 5,.(by rw[(hf c hm).1]at e;cases e),(Ue H Z),∀j,j<n->?aB<=D,?x R p q a b c d,?a0T e2,⟨_,rfl⟩,∀spot,?sF->Dt n W w i G R B t π b ?d R B,i*(?g9+1),NY n w A Q R,y2*r1+-y1*r2,i<=a/\a<n,.(fun c _=>by ext cH;rw[?iZ]),I.tuple_inj,(apos.endLine==cpos.line)=true,(zt2 ?U a b).objs.size,?k f' l,?a51 V r,fun r c hr=>?_,PE X f tx,fun d _=>?_,hp j O9m,fun b o e=>?a1S e,fun y H4=>H4 D=?a17 zs/\zs.length<sizeLine/\Pv ?i ?UC τ2 (upd H4 D (?a7 ?UC)),h3.IsTupleIter,Heap.DictOf.new,l.most=?e n,c ∉ ?qI,h _ _ ?bF O9m,fun r c hr=>Bv O9m c,H a=none,0<=?fB/\?fB<?gM,fun j a e=>?_,Heap->Prop,(?a3 rfl),∀i,i<r->?a53 e,"dict.pop",c<w->i<c->?fT=0,(j9▸hj),Ec e e2 a b c d k,c<w->T' i c=0,Re c η r e,items[i]?,w8.extBut,.(show n+1-1-k=n-k by omega),.(by unfold insT;ext t8),List.range,Al8 j hj e,⟨n,?bK,?aG,h0⟩,(zt1 ?U a).objs.size,NY n w A Q M,?q B ?d i q,.(by simp[Al]),?a5G ?i6 ?y,Kg f e1 e2,?a41 e,(?sW).length,Value.int,?a27 G,Ec O9m O9m _ _ _ _ c,Ec e1 e2,∀k,k<j->v ?a6=0,qe8 _ r1p,(?lV).natAbs,swapsWith,.(by rw[eB];ext jP),?a18 m ?fQ,?B2 (q::qs) k,[?aC,?b9],⟨kvs.length-?i,O9m,rfl,hlt,p'⟩,mainGlobals,k<m->x k=0,PySem.F.entry_dict_pop,?m (?pY),?aP h' b x y,fun c=>?xN,D j j hj hj,"dict_itemiterator",?q R i ?d ?eM,Int.mul_fdiv_add_fmod,r≠spot,[?aC,u,r],.(by rw[h.a.e1,h.a.e2];grind),fun τ2 H2=>tc τ2 H2 fun b H3=>if b=true then te τ2 H3 ?N2 else Pv ?i zs τ2 H3,Ej π b i,?a52 (Gq A i),?a0D ?a8 (pyNext ?hJ),?a4S ?bO ?i,callWith,?aC::u::more,fun c _=>?_,(0:Int).natAbs,?hS k j h1 h2 h3,(a:Addr),i<=a/\a<i+d,∀j c,j<i->?z6,i<n->?NJ,s1.heap.IsTuple,p*f x-q*f i,qb3 (h r x hr hx) (?pJ),?nM->?i1,mg ?B7=?e ?QB,(?iL).natAbs,(?DS).natAbs,?a48 bd,?aT j c h1 h2 h3,R1 ?aO ?s,.(by ext Z9),?b6 ?_ ih,?a0O ?rO ?dV,a*R p k+b*R q k,Al (fun k=>B k a*R k b) n,fun r c hr=>?H2,.(by rw[qf8];omega),Al (fun i=>f i j) n,tr R x c,?a10 H' s',?pQ j h1 O9m,.(fun v q=>by ext ZF),(Il ms k),B5 A p ?d3,⟨x,H1,I1,rx,q1⟩,Pe r ?lX T E,?a20 ?R (?aM [?dM,v]),∃q,?kF a=?e q,.(by simp[hl]),kvs++[p],wpAny_updateSeq_pair,(?K hq),.(by simp at hl),?bL b _ e,?RN (?gS),wpAny_attempt,SK R x H1,ih ?c ?c,⟨_,UY,rfl,rfl,_,rfl⟩,qi6 ?eI (aC.ge k kq2),(hs c hc),?hI ?dI ?lN,Pv 0 [] τ H,(?o fa),c<w->?i7,fun _=>?dH,(x,y)::ps,?a4J ?kA,{ s1 with heap:=?qZ ?AS },.(by rw[Fj];exact d),?N t i ?A (?BM) ?c2,Int.le_refl,h i j hi hj,fun b ob z=>?a1S z,Straight,D.i1z.symm,∀c,c<w->u c=v c,h.good.eqv n ?g,⟨h1,fun j k a b=>?mQ j k a O9m,fun j c a b=>?qA j c O9m b,fun j a=>?kA j O9m,fun k j a b=>?rH k j a O9m⟩,⟨?BC,?bK,?aG,h0⟩,F5 w n (?z n S ?m1) SB,?R4 j c hj hc,R i (?dC),D i p hi hp,zt3 h a b,?bU ?d _ ?g hs,kvs++more,?a1S (?IY),rZ Q x y H2,?a3G R B,items[i],IsItemIter,h.s0.zero,PE X o ta,D q j hq hj,Kg f z hne,(?K O9m),?bU j c O9m hji,H a=?J->H' a=?J,?aT j c hj hc,⟨kvs,kvs[i].1,kvs[i].2,q,?zB⟩,tl _ ?g,LF n w k No,R' j c=?e8,?A9 o i pos',Wh n w T No,Al (fun k=>f k+-1*g k) n,fun c _=>?JT,(a*x+k*y).natAbs,?a5B as c,?k ?f8 m,ms.findIdx?,R' r c=?bP,wpAny_letGo,?a54 i ?s0,Obj.data_mapFields,?bU l _ ?c h2,run d O9m,.(by simp[valueAt,qo4,e']),Jq n ?cM,∀kvs,?l0->?hB,sumN_cut,(?a0Z t).objs.size,c j h1 O9m,LJ xs H Q,?a1L 4,?l1 j h1 h2,R ?d ?s,Jc ?i R t,?a4O (R i) (B j),∃xs,?HJ/\h.DictOfH (?AY ?gC) a xs,.(show n+1+j=n+?O by omega),c1.2.2.2.1,?m3 k hlt,Mf kvs [],t1 j ?c,(?dK t==Value.none)=true,ChainTo m i f,(?p y u),show ?a0I i p from ?aX,fun k=>?IW,atKey xs k,?sG A B g a b,h.st.st.red,e0.step (?aA),?dX f i j x y,?gE+?B3*?C,?d4 a xs,D j i hj hi,(?qZ ?AS).objs.size,?a22 V V->?fK,?aP h' ?R x y,Nat.mul_comm,i.natAbs<?pA,?a0T q,?F n ?g,?jA H1 H2,e.key=?p k t,fun c=>1*P i c+1*P j c,?a54 p ?aL,b≠s.heap.objs.size,OE.start,binaryOp,?kP*v c+?C*?vC,moveS i ?d ?aL,(?s3:Key),hx k ?c,I.nodupK,?a17 q,Int.mul_neg_of_pos_of_neg,(x / h).natAbs,?a2C ?v1,fun c=>?O9,?a4U c η,∀j,j<i->t j<W,∃r,?b3/\?a4I n,w7.extBut,?k ?lL r,?a4W d ?e2,x1.natAbs<=B.natAbs,j.natAbs<L9,SM R vs H1,if p<i then p else p-1,(?e5).isSome,?aS v w'->Q w' s',?a5F (?wP),qf6 (a*x) (k*y),(∃o,?kF e=?J/\o.cls=?X ?u6)->E (?o e) ?i3,hx j ?c,ms.length-i1,?aR e l k,?a5C ?i,Rd H a (.dK ?kB),?DD i _ ?g,DGet H a y o,(B i x).natAbs,ht j O9m,D.TOz.symm,?k (fun k=>f ?c6) n,atKey (q::qs) k,Hh n w m E A P PB Q QB f,.(fun kvs' q=>by rw[hz]at q;cases q;exact hx),{ cls:=?X ?gD,data:=.dict #[] },fun j c hj hcw hne=>?_,fun z=>e (?K9 z),lD n w A,.(by ext Z2),Good.add,(zs++[y]),?f2 j c ?c,0<=?fT/\?fT<=e,?a3L T,Array.getElem?_eq_getElem,∃t,u=?O0 i t,fun _ _ e=>e,(?aR e j),Al (fun k=>T c k*X k i) r,?eL (j:=?kS) (l:=l) ?c ?c,(?fU).natAbs,lM R x H1,?iR->T i j=0,(?a2D ?kT).congr,?t (?G9),∀j,j<i->(B j a).natAbs<=2 ^ j*m,?a1D G M,hk1 _ _ ho1,?K (R:=G9 R j) hj,(?mM).natAbs,(?i9 ?NF),?k (?zM) m,typeLookup,Nat.two_pow_pos,fun p hp=>?_,(?bY).natAbs,?pO ?gJ (?e7 ?sK ?v),Nr n w k No,fun k=>?PH,?jA H H1,hl i zs τ H hi pp,wpAny_typeOf,?a3C (T8 c _ q),.(by rw[←hz2];exact ?mH),R ?fJ ?fQ,(keyPart u).isSome=true,Nat->?bM->?mO,.(by decide),if ?l8 then G9 (?z9) ?d else ?z9,let ⟨q,_,_,hq,_⟩:=JA;?ED,IsRangeIter,?a51 (?qS) m,?mI m i j f,(?lP).2.1,show(-0:Int)=0 from rfl,?a5B prs p,?a0O i s,ql9 ?_ (by size_fits),(R p ?s).natAbs<=μ*?e3,hst.only,(?s8 g).trans,c<w->?fT=0,i<kvs.length,?k ?k0 i,PySem.F.slot_dict_items,h w' _ ?sN rw',∀i c,i<n->r<=c->?VR,k3 c hcw,if i=j then e else 0,?a4U π b,(?SH).isSome,?a26 T,Pv 0 σ H,fun b u q n=>?a3C (ne b u q n),Int.mul_neg_of_neg_of_pos,ms.length-i,?a3G (?z w R ?lT) RB,DecidableEq,B5 ?jS q v,{ s with heap:=?oC },(?p x t),?q R p q k,(?iT).natAbs,(RL ?g),PA X ?eN t,(?v5).length,(ql5 ?_),?LY<=?h9,?a4J ?LZ,I1.hok.fresh,PE X e ty,entryFor,?jA ?MH (Ue H' Z),Al (fun k=>X l k*U k i) ?nL,.(by simp[atKey,qo4,e']),hz c ?c,(qb7 ?oK),e.hash=hashInt k,(x2*r1)*(-x1*r2),∀l,l<k->T k ?s=0,Pc (p::r) k,2 ^ (2*π),l.row.toRowW,h.2.2 r c hr hc,call_meets,∀r c,?f4->?RO,fdiv_small,?lI i2 t2 ?lD,hp k O9m,?x R p j a b c d,fun c=>?bZ+k*A q c,hk c o n1 n3 n4 n5 e,Paired.snoc,kvs.length<sizeLine,hk1 _ _ hoD,sA D σ v x y H3,qx2 c β,?a1S (?QZ),?iQ<=?y,?a3C (T8 c' _ q),.(by obtain⟨o,q1,q2,q3⟩:=id g;obtain⟨p,p1,_,m,p2⟩:=gt;unfold Builtin.SmallTypes.nextOf;refine qa5 (?z1 (name:=?yG) ?EA qn9 (ql0 qn9 ?EA F.entry_tuple_iterator_next ?_ (F.args_tuple_iterator_next_1 _)));show ?a0C (?oT ?v8 0>>=_) s;refine qa5 (qh3 q1 q3 (x:=?lE) rfl ?_);show ?a0C (if ?SC then _ else _) s;rw[?f (show ¬(?SC) from qd8)];show ?a0C (?oT ?v8 1>>=_) s;refine qa5 (qh3 q1 q3 (x:=?p n 0) rfl ?_);show ?a0C (seqItems? (?lE)>>=_) s;refine qa5 (qm6 p1 p2 ?_)),.(by refine ?a0Q ?yI ?_;show ?a0C (?oT ?hJ 3>>=_) _;refine ?a0Q ?aC ?_;refine ?a1X ga;show ?a0C (Builtin.SmallTypes.ownedTupleIsFree ?hJ>>=_) _;refine ?iA;unfold Builtin.SmallTypes.ownedTupleIsFree;refine ?a0Q ?aF ?oK;simp only[if_true];refine ?a2B qw3;refine ?a0Q ?b9 ?_;refine qa5 (qi3 gz ?W fun k1 ZU w1=>?_)),∀(hs:∀i x y zs τ H p,?q4->?p2->?eJ->?cX->g ?e4 τ (?uE) fun τ2 H2=>te τ2 H2 ?N2),a,.(by refine ?iA;simp only[List.zipIdx_cons,List.zipIdx_nil,List.forIn_cons,List.forIn_nil];refine qa5 (?a2B wpAny_onRaise);show ?a0C (?uQ ?oH>>=_) _),.(by refine⟨fun i m σ H=>m=kvs.length-i/\?rY/\?hC,?QR,?_⟩;rintro i m σ H ⟨rfl,hi,pp⟩;have q:=hl i σ H hi pp;by_cases hlt:?VS),.(by intro i s acc hn hi hz hd hit hb k;refine codeAny_builtin Wy ?_;rw[Around.under_plainId Lo];have hLs:s.heap.IsList l items:=let ?LL:=hL;⟨o,hb _ _ nld nli ho,r⟩),.(by obtain⟨r0,r1⟩:=H.part.red ?d l ?aK h1 h2;rw[←?QX,←?RS]at r1;rw[←?QX]at r0;have p:=?Z l h2),∀{K:W.Frag}{a b:Addr}{xs ys:?bM}{n:Nat}(hn:xs.length=n/\ys.length=n)(Pv:?VC)(h0:?QA)(hl:∀i zs τ H,?gK->?eJ->?oY/\?s6),a,.(by obtain⟨x,H1,I1,r1,d,o,kvs,ex,hz,q⟩:=_z;subst ex;obtain rfl:v=?dK d:=r1;obtain⟨ho,hsys,hl,vs,es,ep,rel,hd,hsz,exd,hm⟩:=V3 I1 hz),.(by refine ?a3 ⟨?RC,?hX,fun σ' H' p'=>?OC,?BJ⟩),.(by obtain⟨x,H1,I1,rx,a,ex,d,q1⟩:=_z;subst ex;obtain rfl:u=?dK a:=rx;obtain⟨t1,t2,_⟩:=QN I1 d;refine⟨t1,t2,?_⟩;rw[m.trees]),.(by exact(?bL b u q).stay (fun _ _ _ q=>q) (fun c q=>?pK) ?AW),∀{g:TG}{tb:TS}{D:Ends}{σ:St}{H:Hp}(Pv:?u0)(h0:?W2)(hl:∀i σ H,?rY->?hC->?l0),a,.(by refine⟨?fH,fun b q=>?_,hd⟩;cases q;obtain⟨ob,_,_,h1,h2,_⟩:=dd;exact⟨ob,h1,h2.2.1⟩),.(by have z:?a2S q:=fun w=>Gc hp hq ne ?KN),∀(hs:?sF)(h0:∀c,c<st->?i7)(h1:R i st≠0)(hW:st<W)(hG:G st)(hpg:?LA)(hex:spot<i->st<?dC),a,.(by show(?FT).1=_),.(by show(?FT).2=_),.(by obtain⟨g,hg⟩:=ihm O9m;exact⟨g*T m (t m),by show ?AL*T m (t m)=_;rw[hg,qf2]⟩),.(by show ?hD*?A2+?oL*R ?fJ ?s=0),.(by exact Uo I ?r6 hs he (V5 (qa6 (GF kvs k) z) hd (rel.drop k) JA)),∀{pl:?LU}(he:?R5)(c:Cls X.K C)(h:?a3J Kl)(hr:?E6),a,.(by have zb:?i2+?A*?j2=(?sR)+π+1:=?PK),.(by subst ey;cases (show u=?dK b from ry);obtain⟨z,hd,xs,rel,dd⟩:=?z8),∀{q:Program}{loose:?qR}{XP:(?kO)->?NC}{YP:World->?NC}{d:DefRec},a,.(by rw[show ?yN=0 from ?z0 l k hl (qb3 z (aC.mono k l ?c hl))];simp),.(by have e0:EuA A B A 1 0 B 0 1:=?ME),∀(hr:?b3)(hst:?m5)(hz:?mD)(s2:Ew w n (tr T') ?o1),a,∀{x y z u:Int}(hx:x.natAbs<?o6)(hy:y.natAbs<?o6)(hz:z.natAbs<?o6)(hu:u.natAbs<?o6),a,.(by simp only[qc0,qf0,or_false,not_or]at hc;obtain⟨n1,n2,n3,n4,n5⟩:=hc),.(by obtain⟨ia,ra,pa,_⟩:=I.tuple Xm;obtain⟨ib,rb,pb,_⟩:=I.tuple mT),.(by rcases h with h|⟨hB,e1,e2,e3,e4,e5,e6⟩|⟨hB,e1,e2,e3,e4,e5,e6⟩),.(by rw[Gc (p:=j) (q:=k) ?c hk hne ?OX,qd9];rw[Bq,Bv hne]),∀(hst:?u4=?BA::?vM:=by rfl),a,.(by have e1:=a2 hlt;rw[htk]at e1;have pk:=?oA k hlt;rw[htk]at pk),.(by have he:0<?j4:=C8 (?a2F ?qD)),.(by have hl:?a2A ?WF:=by have:=Qg kvs k v;omega),.(by obtain⟨t,q⟩:=(show ?UH from ry);subst q;rfl),.(by obtain⟨t,q⟩:=(show ?H5 from ry);subst q;rfl),∀{i:Nat}{T V Z:Mat}(h:∀r c,r<i->c<i->?hE=Al (fun j=>T r j*Z j c) (r+1)),a,.(by rw[?gR l k hl (qb3 z (?HF k l ?c hl))];simp),∀(hM:∀r c,r<n->c<W->(M r c).natAbs<=?u8)(hD:Pe n (fun c=>c<W) M D),a,.(by have t1:∀j,j<i->?g1 t i ?e0 j=t j:=?a2F ?w8),∀(d it:Addr)(o:Obj){es:?wZ}{ep:Nat}(hd:?wN),a,∀(hc:?VW)(Lu:?DA),a,∀{n w:Nat}{A Q T P:Mat}(h:∀k c,k<n->c<w->?c1=?a0V (P k) ?f6),a,∀(hr:?E6)(hg:Gl X x)(hm:?j5 x=?e (?o C))(ha:?WE),a,.(by have d:=H.hd l h2;rw[←?RS]at d;omega),.(by intro Ad s σ H xs us Q I r h;obtain⟨a,kvs,rfl,e,q⟩:=h),.(by rw[e0,dN _ hk,?a2 (j:=k) ?c ?uL]),.(by rw[←?aQ,←?aQ,←?aQ,←?aQ,z u,z v]at e0;omega),.(by have hfresh:H ?R=none:=?k4 ?g),.(by intro _;exact⟨0,?iB,?i5,fun j _ hj=>O9m⟩),.(by rcases g with⟨kvs,k,e,ey,l⟩|⟨kvs,k,b,e,ey,eb,l⟩),∀(h:∀l,f<=l->l<m->?VO),a,∀{CL CT:Addr}{H H':Hp}{Z:?v9}{p L R dn:Addr}{h w B:Nat},a,.(by intro hm;obtain⟨r,a,b,c⟩:=?cS;by_cases z:t m<w),.(by rw[?dB,Jj];have:R j k=(a*d-b*c)*R j k:=?xB),.(by subst e;exact ?L ⟨?LJ,hd σ H pp⟩),∀(h:?GO)(ht:?TE){v:?j}(hv:In W i R v),a,.(by rw[?bU ?d c ?g hs];exact H.rw ?d c hs hc),.(by exact⟨f.2.2.2.1,f.2.1,f.2.2.2.2.1,f.2.2.2.2.2⟩),.(by refine qi6 a (qg7 ?FE);have:=c r ?g y),.(by have d1:?cW∣ ?aE:=⟨x k,by rw[e1,qf3]⟩),.(by have ht:?A0 ?hJ ?iC:=(?a1R gz)),.(by unfold insS;by_cases z:?l8),.(by obtain⟨f0,f1,f2,f3,f4,f5⟩:=?EX),.(by rw[Ai (fun z=>by rw[z,e]at n;cases n)];exact n),∀(g:?uC j t n)(gt:?d4 t vs),a,∀(hst:?DX)(hz:?EH),a,.(by cases (show Data.fields _=Data.cell v from q)),.(by show _=?zO*?aE*_;rw[qf2]),∀(h1:D<=?P)(h2:?L7)(h3:b0<=π)(h4:b0<=b),a,.(by cases (show Data.seq _ _=Data.cell v from q)),.(by exact I2.fpOk ?g (I2.hok.fresh ?g)),.(by have:=?hA j ?d ?aK O9m hs;omega),.(by obtain⟨hz,hTI,⟨u0,v0,hTO⟩,h1,h2⟩:=st),∀(G:?aN)(M B0:Mat)(kt:?u)(hd:?j),a,.(by rw[?c9,?f (?U8)]),.(by show ?a0C (?oT ?hJ 2>>=_) _),.(by show ?a0C (pyNext ?m6>>=_) s),∀(Pv:?VC)(h0:?QA),a,∀(h:Tc n w r E L m e A T P PB Q QB kl kr hl hr),a,∀(hdb:(x==("__debug__":Str))=false:=by decide),a,∀{w n:Nat}{R:Mat}{u v:?j}(hu:?EK),a,∀(hp:p<lo)(hm:m<=lo)(hn:?q1)(hpf:p<f\/m<=p),a,∀(hd:∀σ H,Pv ?BC σ H->?jR),a,∀{n:Nat}{f g:?j}(h:∀i,i<n->f i=g i),a,∀{i j:Int}(hi:?D8)(hj:?TK),a,∀{g a b:Int}(S:?sG ?bV ?jY g a b),a,∀(h:?a2X i (fun c=>c<W)),a,∀(hp:p<lo)(hq:q<lo)(hn:?q1)(ne:?g5),a,∀(gx:xs[n]?=?fN) (gy:ys[m]?=?e y),a,∀{j k:Nat}{C:Addr}{ps:?qR}{sp:Sp},a,∀(ts:?eG) (kvs:?c7),a,∀(h:?US),a,∀(he:?QU=q*?K0),a,∀{p:κ × V}{r:?j7}{k:κ},a,∀{j t:Addr}{n:Nat}{vs:?iG},a,∀(e:H a=?jW),a,∀(hE:?k ?k0 r<=E),a,∀{n w m E:Nat}{A P PB Q QB:Mat},a,∀(h:?a1J EuI r2),a,∀(h:?J0),a,@(BB n W C δ ?a ?b),@((∀σ' H',N σ' H'->∃m',m'<m/\W ?i m' σ' H')/\∀x H',(?a).yld i H x H'->?vX),@(?l _ _ ?a _ _ ?b),@(?l ?a A ?b Q E s),@(Al (fun k=>x k*?a) ?b),@(?a fun i c h1 h2 h3=>?b i c h1 h2 h3),@(show ?a≠?b by omega),@(?bN (?cB ?a m ?cA) ?b [] pos),@((if ?a=?b then ?cR else 0)=0),@(det n (B5 A p ?a)),@(?a (if l<k then l else l+1)),@(∀l,?dZ->l<i->(?x R ?d i x y z u ?a ?s).natAbs<=?bB*(?x R ?d i x y z u l ?s).natAbs),@(?aW n W w lo R B ?a ?b),@(qa5 (?Q3 (?z1 (name:=?yG) ht qw2 (ql0 qw2 ht ?KD ?a (F.args_zip_next_1 _))))),@(show ?a=?b by omega),@(∀(i:Nat) t,?r4->∃kv:?sD,kvs[i]?=?e kv/\H ?a=?e (?aM [kV ?aJ,kv.2])),@(qa5 (qh3 gz rfl (x:=?a) rfl ?b)),@(?HT m.base m.few m.line qs5 ?a ?b (Dq (ho Ad s σ H _ I h) fun u s1 _z=>?_)),@(?a Ad s1 σ H1 _ I1 q1),@(fun z=>?a ?cU),@(fun kv=>if ?lA then ?a else kv),@(Pf n w A ?a ?b),@(qp2 (Dq (hf Ad s2 σ H2 _ I2 q2) fun fv s3 ?a=>Calls.spliced_nil ?_)),@(ms.all fun p=>?a5 (?b4 ?a p.1=?h6)),@(fun m hm=>?a R O9m O9m ne ?b),@(?qZ { cls:=?X ?l2,data:=?fF #[?p ?gE ?a,?p ?C t',?p ?C t''] }),@(Bo X Ad σ ?a ?b),@(fun j=>?a j ?b),@(Rk n ?a w r kt hd ?b),@(s.heap.objs.size+?a),@(?OV pos f first (?pO pos ?a) (?v3 pos (keywordEach [] ?v))),@(?a<s.heap.objs.size),@(A (if r<?a then r else r+1) ?aV),@(?e (?a7 ?a)),@(Rw R t k ?a ?b),@(Dt n W w i G R0 B0 t π b ?A ?a ?b),@(?a (?fX WData.int)),@(?a q loose XP YP ?WW d [] (fun f vs=>PySem.call f vs)),@(∀j,j<i->(?a).natAbs<=?b),@(Ci n W w r i ?a ?b B0 kt hd t R B),@((det i ?a).natAbs<=?b),@(Al (fun l=>(T l ?cL*?h7)*(if d=l then 1 else 0)) ?a),@(fun d hd=>(?a d hd).mono ?rV),@(?a A B r2 x2 y2 (?l7) (x1-?dE*x2) (y1-?dE*y2)/\?uY),@(?a*(?i*(i+1+?b+2))),@(?a A B r1 x1 y1 ?b x2 y2),@(show ?a<i+1 by omega),@(s1.heap.objs.size+?a),@(fun σ' H'=>?kM/\?a σ' ?lY),@(Rk w ?iE n r kr hr (?z n ?a ?b)),@(?A5 (t':=s.toks) (fp:=?a) ?b hf),@((if r<?a then r else r+1)=p),@(Al (fun k=>(if k<r then X k i else 0)*T c k) ?a),@(⟨_,?a,rfl⟩),@(qa7 _ ?a),@(by rw[show ?a=(?b-2)+2 by omega,qe1];simp;try omega),@(Ox n i β c t R B ?a ?b),@(B5 (B5 R j (?a ?O)) ?O ?j6),@(?cK ?a z a b ?b),@(qa5 (qm6 ?a rfl ?_)),@(fun k c hk hc=>?a k c hk (by rw[?b k hk];exact hc)),@(PE X (?bN (?cB o ?a ?cA) ?sK [] ?gJ) (?b td ty tx)),@(upd H ?a ?b),@(SqL K H ?a ?b),@(?t (?a × ?b)),@(∀d o kvs,(x=?o d)->(H1 d=?jW)->(R (?a) H1)->?b),@(Te ?a g ?b te D Q τ H),@(∀x c,x<w->c<n->?PM=Pf w n ?rB (?a x) ?KJ),@(fun r l=>?a r ?b7),@(Kd n W w i ?a R B t π b),@(?hA ?a (k-1) ?aK O9m O9m),@(?L1 (show A+1<=-(?aA) by omega) ?a O9m O9m),@(?a<=sizeLine),@(qa5 (?a ?_)),@(fun c=>?a),@(?K (R:=?a) hj),@(fun j hj=>?a j O9m),@(fun j hj=>?a),@(?z0 c k ?a (by have:=aC.inc k c O9m ?b;omega)),@(Fl ?a u v 1 1 ?b),@(?gR i ?a e3 (by have:=?oW ?b i O9m e3;omega)),@(.Tuple ?a x1 tpos),@(∀k c,k<n->c<w->?a=?b k c),@(qk3.mpr (?oE (qd1 ?a))),@(by rw[qe1];exact qn3 ?a ?b),@(show ?a<=?b by omega),@(aN n W w i G R B t b p ?d μ ?a R' B'),@(Dt n W w i G R0 B0 t π b ?A (?a).1 (?b).2),@((?a O9m).cols (fun k c _ hc=>?sO) ?AK),@(?a (fun p=>if ?b8 then(p.1,v) else p)),@(∀w:?j,det n (B5 (B5 A p w) ?a w)=0),@(∀j k,j<k->k<?a->?oO),@(tupleKind_room_in1 ?a),@(fun r c hr=>(?a r c hr).trans (?b r c hr)),@(OF W n R ?a),@(Dx n W w ?a ?b M B0 t R B),@(?x R p q a b c d ?a k),@(?r5 ?R=?e { cls:=?lF,data:=?eF #[?a,?b] }),@(?h8 H ?a D ?b w f),@(?gT P w H h a ?a),@((?a).map ?aU),@(?a l O9m h2),@(Ci n W w r ?i G M B0 kt hd ?a R2 B2),@(∀c,c<n->?bZ=A ?a c),@(td σ H fun x H1=>?a),@(show 0<=-?a by omega),@(qa5 (?a hoa hda ?b)),@(kk _ _ (z9 _ _ ?a) q),@(fun m hm=>?a ?b O9m),@(fun c hc=>?a i c hi hc),@(by rw[Ai ?a];exact q),@(by rw[Ai ?a];exact e),@(by have:=?OM ?a ?b;rw[qf3]at this;omega),@(In w n ?a ?b),@(F5 n w ?a ?b),@(?bN (?iF ?a p) ?b [] pos),@(?a R p q a b c d ?b),@(?a ?hM X.w X.K ?j5 ?uI C m ps j sp),@(fun σ H R=>ta σ H fun vs H1=>?a),@(fun i j=>?a j i),@(?O7 ?eO (?e (?a)) ?JD ?v=pure ?c0),@(qb7 ⟨plainId_quiet Lo ?a,?_⟩),@(by show(?a:Nat)<=sizeLine;decide),@(Rep K H ?a ?b),@(?c5 n W ?a ?b),@(?S fun l hl=>by rw[?a l ?c];simp),@(?S fun k hk=>by rw[x0 k ?a];simp),@(?a=s.heap.objs.size),@(pT n ?a ?b a b=?sV),@(kk _ ?a (fun q=>(hf _ q).2.1 rfl) ?b),@(by have:=?oW k ?a hl1 hl2;omega),@(_*(if m<w then T m m else 0)=?a),@(T i d*(if c=d then e else 0)=?a),@(show ?a ?b ?zW from pb),@(show ?a ?b ?AV from pa),@(qd1 (qb2 ?a)),@(hs i x y zs τ H p e1 e2 ?a hp),@(fun m hm=>(?a m hm).trans (?b m hm)),@(PySem.F.args_dict_get_3 _ _ ?a),@(Ak fun k _=>?a),@(?aW n W w ?a ?b B0 R B),@((?a).stop i H/\?jR),@(?a r c hr hc),@(?a j c O9m hcw hne),@(⟨?a,?hX,fun ys' τ' H' p'=>?b,?BJ⟩),@(∀zs τ H,Pv ?a zs τ H->Q H),@(qa6 (Nat.log2_self_le O9m) ?a),@(fun c _=>by ext cH;rw[?aX,?gF,?a]),@(fun a=>p a*Al (fun b=>?BF) ?a),@(T k ?cL*?a*(if d=k then ?b else 0)),@(Fl (B5 A q ?a) ?bA ?d3 a b hp),@((if r<?a then ?iY else ?hY)=_),@((?z2)/\∀j,?aI->j<?a->w<=t j),@(?a j hj),@(?a ?b c O9m hc),@(⟨?a,?_⟩),@(show ?a=(ms.length-?b)+1 by omega),@(fun k hk=>?a k ?b),@(dot n w ?a ?b),@(det i (FP V Z ?a)),@(Ci n ?a w r n G ?b B0 kt hd t R B),@(?q ?l4 j i ?p5 ?a),@(?d9 ?a i ?aL ?b),@(?Q R i ?d ?a ?b),@(2 ^ (?a+?b)),@(∀d,?mG->?a0A ?m4 (?N t ?a ?A ?b d)),@(BB n W C δ (β+?a1I ?a Y) (?b)),@((?a).go i H/\∃N:?mO,?a0B ?b),@(?a Ad s σ H _ I h),@(Builtin.«zip.__next__» ⟨[?o ?a],[]⟩),@(?x B p q d (-c) (-b) ?a),@(?k (?a11 ?a j) ?b),@(det n ?a),@(In n w ?d7 (?aR ?a i)),@(?N t ?a ?A ?b ?c2),@(PE X (?a0H o ?a) (JW C m sp [] E0 ta ?b)),@(?f (?a0T ?a)),@(?a (t':=s1.toks) ?b),@(?b2 ?a ?v),@((?a11 T' ?a6) ?a=0),@(∀x c,x<n->c<w->?a x c=?a0V ?b ?f6),@(?a[i]?=?e ?b),@(?d9 ?cT i (?j8) ?a),@(?aD (?a2C ?a)),@(∀p,?cX->Q ?e4 (?a20 p ?a)),@(det i ?a),@((?a).natAbs<=?b),@(?a52 ?a=- ?a52 (B5 (B5 A p v) ?b u)),@(?N t ?aO ?f7 ?a ?b)])
universe e9
theorem op_mulX{X:Cx}:OpR X (?T2 .Mult) (rI ?iW fun i j=>?p (i*j)):=opI fun _ _ _ _ _ _ _ hc q=>mul_int q hc
theorem LC{i:Int}{m:Nat}(h:?ST):?yK i<=m:=by
 unfold Builtin.Int.intBits;split
 . exact ?aG
 . rename_i h0
   have hne:i.natAbs≠0:=by
    intro z
    exact h0 (by have:i=0:=O9m
                 simp[this])
   exact(?zN hne).mpr h
theorem Rs[?h3]{m n:Nat}[?CZ](hj:?IC)(h:m+n<=134217728):?kN:=by
 have h1:=LC hi;have h2:=LC hj
 have h3:¬((?yK i:Nat):Int)+((?yK j:Nat):Int) > ((bitsLine:Nat):Int):=by
  have:bitsLine=134217728:=?VD
  omega
 unfold IntMulOk;intro hz;simp only[qc4]at hz;have h4:=hz.2;unfold Builtin.Int.intTooBig at h4;exact h3 (by simpa using h4)
theorem Zn[?h3](h1:-(?pL)<i)(h2:i<?pL):?kN:=vU.ok (?L ?lM)
theorem yZ[?h3](h1:-(?pL)<j)(h2:j<?pL):?kN:=vU.ok (?a3 ?lM)
universe L2
namespace L2
open PySem PySem.W PySem.Calls PyProof.Rows
def Qq:Nat:=1048576
theorem X7:∀{ns:?g4}{x:Int},x∈ns->?I8<=?a1A WData.weightAll
 | n::ns,x,h=>by
   rw[qc5];simp only[WData.weightAll];rcases qc0.mp h with rfl | h
   . omega
   . have:=X7 h;omega
theorem nQ{ns:?g4}(h:WData.layableAll [?a1A WData.list]=true):?nO:=by
 intro x hx
 have h1:?a5 (?LE (?a1A WData.list)<=2 ^ 20)=true:=by
  have:WData.layable (?a1A WData.list)=true:=by simpa[WData.layableAll]using h
  unfold WData.layable at this;exact(Bool.and_eq_true_iff.mp ?F).2
 have h2:?a1A WData.weightAll<=1048576:=by
  have:=qd2 h1;simpa only[WData.weight]using this
 have h3:=X7 hx;by_cases h0:x.natAbs=0
 . rw[h0];exact Nat.pow_pos ?M
 . have h4:?I8=x.natAbs.log2+1:=by
    simp only[WData.weight];rw[?f fun z=>h0 (by rw[show x=0 by simpa using z];rfl)]
   have h5:x.natAbs.log2<Qq:=by show _<1048576;omega
   exact(?zN h0).mp h5
theorem dZ{l:OpenLaw}{n:Nat}[?Y2]
 (hn:?N5) (hdf:?G1)
 (call:∀(w:World) (s₀ s₁:Shared) (mg mb:?kO) (fa:Addr) (o:Obj) (pm cd doc:Value) (a:Addr) (vs:?sB) (ns:?g4),(?nO) →
   Ground q loose [] XP w s₀ mg mb ?yU->YP w ?yU →
   ?EO fa=?J->o.data=.func (docDef ?B7 d.params d.body d.scope pm cd doc)->s₁.heap.CodeRec cd ?B7->?P8 →
   ?EO a=?e { cls:=?pE,data:=?eF vs.toArray }->IntsAre vs ns->?FW->s₁.gens=#[] →
   codeAny (model l.prog w) callerA (.call ?QB ⟨?mP,[]⟩) (fun r s'=>r=.ok (.ret (?sQ))/\OldK ?yU s'.heap/\s'.os=s₁.os/\AllBare s'.gens) s₁) :
 ?a1B WalkO:=by
 intro w s₀ s₁ mg mb G Y fa o pm cd doc dV kV ho hd hcd hD hmg hg args vals as hpre hlay hrd hwl hlo;obtain rfl:dV=?aF:=Dflts.none hD hdf;obtain rfl:kV=?aF:=Dflts.noKw hD;obtain⟨a,vs,ns,rfl,rfl,hobj,hints,hlen⟩:=Att.script_of hn hpre hwl;refine enter_call (codeAny_mono (?fV w s₀ s₁ mg mb fa o pm cd doc a vs ns (nQ hlay) G Y ho (fd_plain hd) hcd hmg hobj hints hlen hg) fun r s' hq=>?_);obtain⟨rfl,h2,h3,h4⟩:=hq;exact⟨?L ⟨?sQ,?sQ,[],rfl,?FZ,?sQ,Att.post_true l _,fun _=>⟨List.Pairwise.nil,fun _ hm=>(nomatch hm)⟩⟩,h2,h3,h4⟩
theorem walk_ofB{l:PySem.W.OpenLaw}{n k:Nat}[?Y2]{K:Params->PySem.W.Frag}{CX:World->sO}{sp:World->Sp}{x:Str}
 (hn:?N5) (hn2:?a2A n) (hdf:?G1) (hr:Gw k callerA)
 (hY:∀(w:World) (h:Heap),YP w h->?BB h)
 (F:∀(w:World) (mg:?kO) (fa:Addr) (h:Heap),?BB h->h.Ns ?OD mg->?P8 →
   ∃fd:FuncData,(∀(s:Shared) (u:Value),BindsTo s fd ⟨[u],[]⟩ [(x,u)]) ∧
     ∀base:Heap,?BB base->base.Ns ?OD mg->Bw l.prog w (K w.params) mg base (CX w) k fa fd [x] (sp w))
 (kR:∀(w:World) (H:Hp) (a:Addr) (ns:?g4),?FW->(?nO)->Ab5 H->SqL (K w.params) H a ?FB->sp w ?mP H (fun v _=>v=?sX) ?II)
 (hCX:∀(w:World) (H:Hp) (s:Shared) (e:Value) (s':Shared),CX w [] H s (?II) e s'->False) :
 ?a1B PySem.W.WalkO:=by
 refine dZ hn hdf fun w s₀ s₁ mg mb fa o pm cd doc a vs ns ZO G Y ho hd hcd hmg hobj hints hlen hg=>?_;have KX:=hY w _ Y;obtain⟨fd,hb,hF⟩:=F w mg fa _ KX G.T.g hmg;exact qJ KX G.T.g G.T.b G.T.builtins G.T.nolimit hg hobj hints (qa6 hlen hn2) hr hF hb (fun H hO hS=>kR w H a ns hlen ZO hO hS) fun H e s'=>hCX w H s₁ e s'
universe L2
namespace Hb
def Al[?G]:?j
 | 0=>0
 | n+1=>?iL
theorem Ak{f g:?j}:∀{n:Nat},(∀k,k<n->f k=g k)->?bY=?mR
 | 0,_=>rfl
 | n+1,h=>by
   show ?iL=?mR+g n;rw[Ak ?E7,h n ?c]
theorem Qw:∀n:Nat,Al (?cM) n=0
 | 0=>rfl
 | n+1=>by show ?k5+0=0;rw[Qw n];rfl
theorem C4(f g:?j):∀n:Nat,Al (fun k=>f k+g k) n=?bY+?mR
 | 0=>rfl
 | n+1=>by
   show ?k5+(f n+g n)=(?iL)+(?mR+g n)
   rw[C4 f g n];omega
theorem Bg(c:Int)[?G]:∀n:Nat,Al (fun k=>c*f k) n=c*?bY
 | 0=>by show ?dH=c*0;rw[qd9]
 | n+1=>by
   show ?k5+c*f n=c*(?iL);rw[Bg c f n,Int.mul_add]
theorem En(c:Int)[?G](n:Nat):Al (fun k=>f k*c) n=?bY*c:=by
 rw[qf3,←Bg];exact ?a45 ?q6
theorem Cl[?tQ](m:Nat):∀n:Nat,Al (fun i=>Al ?bV m) n=Al (fun j=>?PL) m
 | 0=>(Qw m).symm
 | n+1=>by
   show ?k5+Al (f n) m=Al (fun j=>?PL+f n j) m;rw[Cl f m n,C4]
theorem Dj[?G](i:Nat):∀n:Nat,Al (fun k=>(if k=i then 1 else 0)*f k) n=if i<n then f i else 0
 | 0=>?NV
 | n+1=>by
   show ?k5+(if n=i then 1 else 0)*f n=_;rw[Dj f i n];by_cases h:n=i
   . subst h;simp
   . by_cases h2:i<n
     . rw[?m h2,?hW,?Y];omega
     . rw[?tZ,?hW,?n];omega
def Jq(n:Nat)[?G]:?g4:=?IE f
theorem Lr(n:Nat)[?G]:(?fZ).length=n:=by unfold Jq;rw[qa4,qo8]
theorem cR{n i:Nat}[?B](h:i<n):?a5B (?fZ) ?bV:=by
 unfold Jq;rw[qa9,?GB h];rfl
theorem Zq(n:Nat)[?G]:?GJ=?fZ++[f n]:=by
 unfold Jq;rw[qj7,qb4];rfl
theorem bB[?ZT]:?fZ=Jq n g:=by
 unfold Jq;refine qq1 fun i hi=>h i (qe6.mp hi)
theorem uT(n:Nat):(?HK n [?dH]).flatten=?RV:=by
 induction n with
 | zero=>rfl
 | succ n ih =>
   rw[Zq,←ih];clear ih
   induction n with
   | zero=>rfl
   | succ n ih =>
     rw[qj3,ql4,ih];have ih':=ih;rw[qj3,ql4]at ih';rw[←qw6,ih']
theorem Ab0[?h3]{m:Nat}[?CZ](hj:j.natAbs<?pA):(i+j).natAbs<2 ^ ?lD:=by
 have h:=qf6 i j;rw[qh0];generalize ?pA=q at *;omega
theorem vM{i:Int}{m n:Nat}[?CZ](h:m<=n):i.natAbs<2 ^ n:=qb3 hi (?JQ)
theorem JM[?B]{m:Nat}:∀{n:Nat},(∀k,k<n->?xX<?pA)->?V1<?a4U m n
 | 0,_=>by show ?OY<_;exact Nat.pow_pos ?M
 | n+1,h=>by
   have h1:=JM (n:=n) (f:=f) ?gQ;show ?P9<2 ^ (m+n+1);exact Ab0 h1 (vM (?nK) (qf4 m n))
universe Hb
namespace Hb
open PySem L2
noncomputable abbrev VI(n:Nat)[?G]:?bM:=?a32 ?fZ
def dL(n:Nat)[?G]:L2.D:=?a7 (Fe (?fZ))
def dT(h w:Nat)[?tQ]:L2.D:=?a7 ((?NP h).map ?uS)
section
variable[?b0]{H H' H1 H2:Hp}
theorem Bu(n:Nat)[?G]:?NZ=n:=by rw[qa4,Lr]
theorem Cp{n i:Nat}[?B](h:i<n):?a5B ?k8 (?p ?bV):=by rw[qa9,cR h];rfl
theorem Au7{n i:Nat}[?B](h:i<n):DZ ?k8 (?r2:Int)=?e (?p ?bV):=Bm (Cp h)
theorem We{n i:Nat}[?B]{u:V}(h:?k8[i]?=?jQ):i<n/\u=?p ?bV:=by
 have h1:i<?NZ:=(?kV h).1;rw[Bu]at h1;rw[Cp h1]at h;exact⟨h1,(qd7 h).symm⟩
theorem Uw(n:Nat)[?G]:VI ?E f=?sW++[?p (f n)]:=by
 show ?a32 ?GJ=_;rw[Zq,qb4];rfl
theorem Qt[?ZT]:?sW=VI n g:=by
 show ?a32 ?fZ=(Jq n g).map ?aU;rw[bB h]
theorem Ab1(n:Nat):(?HK n [?aU 0]).flatten=VI n ?cM:=by
 show _=?a32 ?RV;rw[←uT,List.map_flatten,List.map_replicate];rfl
theorem Au2{v:V}{n:Nat}[?B](h:?a3P v ?DT):∃a,v=?aC/\?uP:=by
 obtain⟨a,vs,e,q,r⟩:=h;rw[Iw.mp r]at q;exact⟨a,e,q⟩
theorem RI{a:Addr}{n:Nat}[?B](h:?uP):?a3P ?dJ ?DT:=⟨a,_,rfl,h,Iw.mpr rfl⟩
theorem Id{v:V}{h w:Nat}[?d1](r:?M9):∃a us,v=?aC/\?E9/\?vD/\∀i u,us[i]?=?jQ->i<h/\∃b,u=?b9/\?HU:=by
 obtain⟨a,us,e,q,r⟩:=r;have hl:?vD:=by have:=r.length;simpa using this
 refine⟨a,us,e,q,hl,fun i u hu=>?_⟩;have hi:i<h:=by have:=(?kV hu).1;omega
 obtain⟨d,hd,rd⟩:=r.getV hu;rw[qa9,?GB hi]at hd;have e2:d=?GQ:=(qd7 hd).symm;subst e2;exact⟨hi,Au2 rd⟩
structure Rows(H H1:Hp)(D:Addr)(as:?eG)(w:Nat)[?tQ]:Prop where
 same:?V5
 free:?o4
 «at»:H1 D=?a17 (?i0)
 row:∀j a,as[j]?=?e a->?N9/\a≠D/\H1 a=?a17 (VI w ?jY)
theorem Rows.nil{D:Addr}{w:Nat}[?d1](h:?o4):?h8 H (?a20 D (?a7 [])) D [] w f:=⟨Same.new h,h,Ab,fun j a e=>?zH⟩
theorem Rows.push{D b:Addr}{as:?eG}{w:Nat}[?d1][?n3](hb:H1 b=none)(s:?SW)(h2:H2 b=?a17 (VI w (f as.length))):?a30 (upd H2 D (?a7 (?i0++[?b9]))) (as++[b]):=by
 have hne:b≠D:=fun z=>by rw[z,R.at]at hb;cases hb
 refine⟨(R.same.trans s).turn ?mN,?mN,by rw[Ab,qb4];rfl,?NB⟩;by_cases hj:j<as.length
 . rw[qc6 hj]at e;obtain⟨h1,h2',h3⟩:=?lP;exact⟨h1,h2',by rw[Ai h2'];exact s _ _ h3⟩
 . have hl:j<(as++[b]).length:=(?kV e).1;have ej:j=as.length:=by simp at hl;omega
   subst ej;have eb:b=a:=?lJ
   subst eb;exact⟨R.same.free hb,hne,by rw[Ai hne];exact h2⟩
theorem Rows.rep[?tL]{h w:Nat}[?d1][?n3](hl:?zA):Rep K H1 ?h5 ?p0:=by
 refine⟨D,_,rfl,.of R.at,?_⟩;subst hl
 have go:∀(bs:?eG) (n:Nat),(∀j a,bs[j]?=?e a->H1 a=?a17 (VI w (f (n+j))))->Reps K H1 (?GI) ((?vL n bs.length).map ?uS):=by
  intro bs
  induction bs with
  | nil=>intro n _;rfl
  | cons b bs ih =>
    intro n hr;refine⟨?b9,?GI,rfl,RI (.of ?_),?_⟩
    . have:=hr 0 b rfl;simpa using this
    . refine ih ?E ?NB;have:=hr ?O a ?oS;rw[?S7];ext a1
 have:=go as 0 fun j a e=>by rw[qu4];exact ?y7
 rw[List.range_eq_range'];ext a1
theorem Rows.later[?tL]{w:Nat}[?d1][?n3](s:?SW):?a30 H2 as :=
 ⟨R.same.trans s,?mN,s _ _ R.at,fun j a e=>⟨(?lP).1,?VJ,s _ _ ?y7⟩⟩
theorem Rows.earlier{H0:Hp}[?tL]{w:Nat}[?d1](s:?jA H0 H)[?n3]:?h8 H0 H1 D as w f :=
 ⟨s.trans R.same,?A6 ?mN,R.at,fun j a e=>⟨?A6 (?lP).1,?VJ,?y7⟩⟩
theorem bP{g:TG}[?t7][?b0]{a b:Addr}{xs ys:?bM}{n:Nat}(hn:n=min xs.length ys.length)[?ZN](hl:∀i zs τ H,?gK->?eJ->?a21 a xs/\?a21 b ys)
 [?XG]
 [?CH]:?a24 (Itz K a b) lY:=gM hn Pv h0 hl (fun i x y zs τ H p e1 e2 pp hp=>?a42 pp) hd
universe e9
def newL(H:Hp)(n:Nat)[?G](Q:V->?fK):Prop:=∀(D:Addr) (H':Hp),?o4->?hR->H' D=?a17 ?k8->?KX
def uO(H:Hp)(h w:Nat)[?tQ](Q:V->?fK):Prop:=∀(D:Addr) (as:?eG) (H':Hp),?zA->?a30 H' as->?KX
section
variable[?dT]
def aR:Sp:=fun vs H Q _=>Xr fun ?pT (h w j:Nat) ?qH=>D6 (vs=[v,?p j]) ?sS ?nP (j<w) (newL H h (fun i=>f i j) Q)
def Io:Sp:=fun vs H Q _=>Th fun ?pT ?y5 ?qH=>D6 (vs=[v,?p w]) ?sS ?nP ?nQ (uO H w h (?a3L f) Q)
universe e9
section
variable[?dT]
def Xu:Sp:=fun vs H Q _=>Ju fun ?P0 (ns:?g4)=>D6 (vs=?mP) (?a21 a ?FB) (ns.length<=63) ((?nO)) (∀H',?BL)
def Tk:Sp:=fun vs H Q _=>XQ fun(a b:Int) (x y:Addr) (n:Nat) (p q:?j)=>Hq (vs=[?p a,?o x,?p b,?o y]) (?a21 x (VI n p)) (?a21 y (VI n q)) (?qP) ((∀j,j<n->?iW a (p j)/\?iW b (q j))) (newL H n (fun j=>a*p j+b*q j) Q)
def Ro:Sp:=fun vs H Q _=>Ex6 fun(x:Addr) ?pT ?y5 (a:?j) ?qH=>Lk (vs=[?o x,v,?p w]) (?a21 x (VI h a)) ?sS ?nP ?nQ ((∀k j,k<h->j<w->?iW (a k) (f k j))) (newL H w (fun j=>Al (fun k=>a k*f k j) h) Q)
def Sb:Sp:=fun vs H Q _=>XQ fun(u v:V) (h d w:Nat) (f g:?dD)=>EE (vs=[u,v,?p w]) (?a3P u (dT h d f)) (?a3P v (dT d w g)) ?nP (d<=1000) ?nQ ((∀i k j,i<h->k<d->j<w->?iW (f i k) (g k j))) (uO H h w (fun i j=>Al (fun k=>f i k*g k j) d) Q)
def Yh(_K:W.Frag):Sp:=fun vs H Q _=>∃n i:Nat,vs=[?oR,?qX]/\?qP/\newL H n (fun j=>?uT) Q
def BZ(_K:W.Frag):Sp:=fun vs H Q _=>∃n:Nat,vs=[?oR]/\?qP/\uO H n n (fun i j=>?uT) Q
universe e9
universe Hb
namespace L2
open PySem PySem.Spec PyProof.Rows
structure Kl[?CU][?dT][?C6](m:Str)[?CL]:Prop where
 ex:∃(f:Addr) (fd:FuncData),rV K C m f/\?vN
structure gX[?CU][?dT][?C6][?CL]:Prop where
 ex:∃(f:Addr) (fd:FuncData),Mk K C f/\?vN
section
variable{X:Cx}[?b0][?ZZ]{x m f:Str}{p pos apos pos':Pos}{e o value:Expr}[?nB]{ta tv:TE}{t:TA}
theorem C5[?XZ](ha:?WE)[?CX]
 [?YB] (hpl:?BH (·.1)=false:=by rfl)
 (ht:?a58 (?a0H o ?eN)=(do
   let ov ←?r9
   ?xI
   let ?z7 ←?wY
   ?FM):=by rfl) :
 ?a55 ?eN t:=by
 ext CB;exact UD he c h1 h3 ?oB h2 ?V FE ha hst hpl ht
theorem M5[?XZ][?CX]
 (ht:?a58 (?a0H o [])=(do
   let ov ←?r9
   ?xI
   let ?z7 ←?wY
   ?a14 (?e7 [] ?v)):=by rfl) :
 ?a55 [] YA:=by
 ext CB;exact PJ he c h1 h3 ?oB h2 ?V FE ht
theorem M6(h:gX ?hM X.w X.K ?j5 ?uI C ps j sp)[?YO](hk:j+1<=k:=by decide)[?ZP]
 (he:?u4=?BA::?vM:=by rfl) (hpl:?BH (·.1)=false:=by rfl):PE X (?a3H x ?eN) (VZ C sp [] E0 t):=by
 ext CB;exact uE h1 h3 ?oB hg hm h2 ?V FE ha hdb he hpl
theorem Bd(he:PE X e ta)[?D3](hb:?uH e f ?v (?jZ)=?jZ:=by rfl):PE X (?cB e f pos) (Aj3 K ta f):=by subst hK;exact yN he hb
theorem E7(ha:?R5)(hv:?JS)[?D3](hs:?a3M ?GV:=by rfl):PS X (.Assign [?GV] ?eO pos) (Ak4 K ta tv f):=by subst hK;exact YK ha hv hs
universe e9
noncomputable abbrev TJ:=St->Hp->(?fK)->Prop
section
variable{X:Cx}{e v₁ v₂:Expr}{es rest:?eP}{te:TE}{tj:TJ}{pos:Pos}
universe e9
universe L2
namespace Hb
open PySem L2
inductive Tn where
 | mi (i:Nat) | sw (i j:Nat) | ad (i j:Nat) (n:Int)
def sV:Tn->L2.D
 | .mi i=>?aM [.str "minus",?qX]
 | .sw i j=>?aM [.str "swap",?qX,?p j]
 | ?oG=>?aM [.str "add",?qX,?p j,?oR]
def TF:Tn->(?dD)->?dD
 | .mi i,f=>fun r c=>if r=i then -(f i c) else f r c
 | .sw i j,f=>fun r c=>if r=j then f i c else if r=i then f j c else f r c
 | ?oG,f=>fun r c=>if r=i then 1*f i c+n*f j c else f r c
def tnB:Tn->Tn
 | ?oG=>.ad i j (-n)
 | t=>t
def tnA:Tn->Tn
 | ?oG=>.ad j i (-n)
 | t=>t
def tB(B:Nat):Tn->Prop
 | .ad _ _ n=>n.natAbs<2 ^ B
 | _=>True
theorem M3{f:Str}{v:V}:∀{fs:?a22 Str V}{x:V},fs.lookup f=?fN->(putF f v fs).length=fs.length
 | [],x,h=>by cases h
 | (g,y)::r,x,h=>by
   unfold putF;by_cases e:g=f
   . rw[?bG];rfl
   . rw[?c9,qd4,qd4];rw[qp4]at h;have e2:(f==g)=false:=by simpa using ?hL
     rw[e2]at h;rw[M3 h]
def Ue(H:Hp)(Z:?v9):Hp:=fun a=>@ite _ (Z a) (Classical.propDecidable _) none (H a)
section
variable[?b0]{H H' H1:Hp}{Z:?v9}
theorem Ud{a:Addr}(h:¬Z a):?HV=H a:=by unfold Ue;rw[?hW]
theorem Z2{a:Addr}(h:Z a):?HV=none:=by unfold Ue;rw[?rN]
theorem Nd:?jA ?MH H:=fun a o e=>by
 by_cases h:Z a
 . rw[Z2 h]at e;cases e
 . rw[Ud h]at e;exact e
theorem bH(h:∀a o,¬Z a->?RA):?WM:=fun a o e=>by
 by_cases hz:Z a
 . rw[Z2 hz]at e;cases e
 . rw[Ud hz]at e ⊢;exact h a o hz e
theorem oV(s:?hR):?WM:=bH fun a o _ e=>s a o e
theorem GL{a:Addr}{us:?bM}{h w:Nat}[?d1](hq:?E9)(hl:?vD)(hr:∀i,i<h->∃b,us[i]?=?DG/\?HU):?a3P ?dJ ?p0:=by
 refine⟨a,us,rfl,hq,?_⟩;subst hl
 have go:∀(vs:?bM) (n:Nat),(∀j,j<vs.length->∃b,vs[j]?=?DG/\?a21 b (VI w (f (n+j))))->Reps K H vs ((?vL n vs.length).map ?uS):=by
  intro vs
  induction vs with
  | nil=>intro n _;rfl
  | cons v vs ih =>
    intro n hv;obtain⟨b,e,hb⟩:=hv 0 ?W;have ev:v=?b9:=?lJ
    subst ev;refine⟨?b9,vs,rfl,RI ?pW,?_⟩;refine ih ?E ?a4;obtain⟨b',e',hb'⟩:=hv ?O (by simpa using hj);refine⟨b',by simpa using e',?_⟩;rw[?S7];exact hb'
 have:=go us 0 fun j hj=>by rw[qu4];exact ?a4J hr
 rw[List.range_eq_range'];ext a1
theorem Rows.hid[?tL]{h w:Nat}[?d1][?n3](hl:?zA)(hz:∀a,Z a->?w9):Rep K (Ue H1 Z) ?h5 ?p0:=by
 have nz:∀a,?N9->¬Z a:=fun a e z=>hz a z e;refine GL (us:=?i0) (.of ?_) (by rw[qa4];exact hl) ?o0
 . rw[Ud (nz D ?mN)];exact R.at
 . have hi':i<as.length:=O9m
   obtain⟨h1,_,h3⟩:=R.row i as[i] (qa0 hi');refine⟨as[i],by rw[qa9,qa0 hi'];rfl,.of ?_⟩;rw[Ud (nz _ h1)];exact h3
universe e9
section
variable[?dT]
def Jm:Sp:=fun vs H Q _=>Nv fun ?P0 (n:Nat) (f:?j)=>B4 (vs=[?aC,?oR]) (?uP) (?qP) (∀H',?hR->?BL)
def Wm:Sp:=fun vs H Q _=>Th fun ?pT ?y5 ?qH=>D6 (vs=[v,?p w]) ?sS (h<=40) ?nQ (∀H',?hR->?BL)
def aU:Sp:=fun vs H Q _=>Ju fun(u:V) (t:Tn)=>E5 (vs=[u]) (?a3P u (sV t)) (∀(v:V) (H':Hp),?hR->Rep K H' v (sV (tnA t))->Q v H')
variable(CL CT:Addr)
universe e9
section
variable[?b0][?YX][?d1]{ds:?a22 Bool Tn}
def Ls(H H':Hp):Prop:=∀c q,H c=?T8->H' c=?T8
def Kp(H H':Hp):Prop:=∀a,?w9->H' a≠none
theorem Kp.trans{H H1 H2:Hp}(x:?y2)(y:Kp H1 H2):Kp H H2:=fun a e=>y a (x a e)
theorem Kp.of{H H1:Hp}(s:?V5):?y2:=fun a e z=>e (?A6 z)
theorem Kp.upd{H:Hp}{p:Addr}{o:HO}:Kp H (?a20 p o):=fun a e z=>by
 by_cases hap:a=p
 . rw[hap,Ab]at z;cases z
 . rw[Ai hap]at z;exact e z
theorem Kp.x{H H1:Hp}{p:Addr}{o:HO}(s:SameX p H H1)(hp:H1 p=?J):?y2:=fun a e z=>by
 by_cases hap:a=p
 . rw[hap,hp]at z;cases z
 . cases q:H a with
   | none=>exact e q
   | some o'=>rw[s a o' hap q]at z;cases z
universe e9
section
variable[?dT]
universe e9
section
variable[?b0][?YX][?d1]{ds:?a22 Bool Tn}
universe e9
universe Hb
namespace L2
open PySem PySem.Spec PyProof.Rows PySem.W
section
variable{X:Cx}
def U1(_i j:Int):Prop:=j≠0/\j.natAbs.log2<9000
theorem U1.of[?h3](h0:j≠0)(h:j.natAbs<?yM):U1 i j:=⟨h0,(?zN O9m).mpr h⟩
theorem Jn:OpR X (?T2 .FloorDiv) (rI U1 fun i j=>?p (i.fdiv j)):=opI fun _ _ _ _ _ _ _ hc q=>floordiv_int hc.1 q (?L (PyProof.noPylong_of_log2 hc.2))
def insAt(k:Nat)(y:α)(xs:?t α):?t α:=xs.take k++y::xs.drop k
inductive gW(x:V)(vs:?bM)(H:Hp)(Q:VK):Prop
 | mk:∀(l:Addr) (xs:?bM) (k:Nat) (y:V),(x=?oV)->(vs=[?p k,y])->(H l=?a17 xs)->(k<=xs.length)->(xs.length<sizeLine)->(Q .non (?a20 l (?a7 (insAt k y xs))))->?EV
def tV:V->?qG:=fun x vs H Q=>?EV
theorem Vo:MtM X "list.insert" tV:=by
 intro Ad s σ H x vs v us Q I rx rv h;obtain⟨l,xs,k,y,rfl,rfl,hH,hk,hz,q⟩:=h;cases rx;obtain⟨u1,u2,rfl,r1,r2⟩:=X8 rv;obtain⟨t,rfl⟩:=r1;obtain⟨z,its,n,r,hl,e⟩:=I.lstM hH
 have hsl:((k:Nat):Int)<2 ^ 63:=by
  have h1:?a2A k:=O9m
  have h2:sizeLine<=2 ^ 62:=?kU
  have h3:=qa6 h1 h2;omega
 have hfit:¬(!Builtin.List.listFitsIndex (k:Int))=true:=by
  rw[fitsIndex_both ?c hsl];exact qd8
 have hsz:?a2A its.toArray.size:=by rw[qc2];omega
 obtain⟨ki,hki⟩:∃ki:Int,ki=(k:Int):=?ML
 rw[←hki]at hfit ⊢;have hm:=AutoSeq1.list_insert_list_int_val_1 l ?o9 n ki t u2 hfit hsz;refine ?WY F.slot_list_insert (?a1R e) F.entry_list_insert (F.args_list_insert_3 _ _ _) hm (?a4L e);refine⟨.non,_,I.lset (its':=insAt k u2 its) hH e ?_ ?_ ?_,rfl,q⟩
 . have hkl:k<=its.length:=O9m
   have hkn:ki.toNat=k:=O9m
   simp only[qc2,hkn];rw[?n,Nat.min_eq_left hkl];apply Array.ext';simp only[insAt,Array.toList_append,Array.toList_push,Array.toList_extract,List.extract_eq_drop_take,List.drop_zero,qw9];rw[qw6,qi1 (i:=its.length-k) (by rw[qj0];omega)];rfl
 . exact(r.take k).append (?b6 r2 (r.drop k))
 . unfold insAt;rw[qc3,qd4,qc8,qj0];omega
structure Aw3(K:Frag)(D:Addr)(m:Str)(f:Addr):Prop where
 rd:readsIn K D (?X "type")=true
 fc:findCls K ?h5 (?X "type") m=?e (.val (?o f))
 ga:specialIn K ?h5 "__getattribute__"=?e (?e (?i9 "type.__getattribute__"))
 kp:W.keepIn K (?o f)=true
structure Ac3[?CU](K:Frag)[?C6](m:Str)[?CL]:Prop where
 ex:∃(f:Addr) (fd:FuncData),Aw3 K C m f/\?vN
theorem UE[?ZZ]{x m:Str}{np apos pos:Pos}{e:Expr}[?nB]{t:TA}{pl:?LU}(h:?a3J Ac3)[?YO][?CX]
 [?ZP] [?YB] (hpl:?BH (·.1)=false:=by rfl)
 (ht:?a58 (?a0H (?iF x np) ?eN)=(do
   let ov ←?a58 (?iF x np)
   ?xI
   let ?z7 ←?wY
   ?FM):=by rfl) :
 PE X (?a0H (?iF x np) ?eN) (tCall sp [] E0 t):=by
 obtain⟨f,fd,B,hb,F⟩:=h.ex;ext tK;refine qp0 (pl:=pl) (X1 I hg hm ?_ hdb) ht;refine method_cls I.kIn B.ga (cls_value I.kIn B.rd B.fc rfl ?_);refine qq9 (h₀:=X.base) I.ok.mod.kin B.kp (Dq (ha pos Ad _ σ H _ ?sN h) fun us s1 ⟨vs,H1,I1,r,q⟩=>(?a4L I1.kIn)) hst hpl;exact cE F ?oB hb ?V FE I1 r q
universe e9
universe L2
namespace L2
open PySem PySem.Spec PyProof.Rows
section
variable[?eT][?bQ][?eZ]
theorem J3[?a04]{x:Value}[?cC][?ZA](gx:vs[n]?=?fN)
 (k:∀h',?lI j t ?E->?nV j ?U h'->Q x ?i3):?L2:=by
 ext XE;simp only[qe3,gx];refine qa5 (?L0 q1 q3 ?W (qb7 ⟨x,rfl,qb7 (k _ ?_ (Heap.SameBut.update ..))⟩));exact⟨_,Heap.get?_update_self _ q1 (Obj.isFreed_of_fields (?RR q3 _)),(Obj.cls_mapFields ..).trans q2,by rw[?RR q3];simp[rawInt]⟩
theorem Qd[?a04][?cC][?D0][?ZA](gx:vs[n]?=none)
 (k:∀h' e,Heap.ExtBut j ?U h'->?TR):?L2:=by
 ext XE;simp only[qe3,gx];refine qa5 (qw3 (qa5 (?L0 q1 q3 ?W ?_)));show ?a0C (newExc (?X ?u6) []>>=_) _;refine ?iA;simp only[newExc,newTuple];refine qa5 (?VN);refine qa5 (m:=firstArgMember _ _) (wpAny_of_eq (a:=Value.none) (by first | rfl | (simp only[firstArgMember];rfl)) ?_);refine ?VN;simp only[raiseNew];refine ?a2B wpAny_handled
 first | rw[show A.in1.handled=none from hn] | rw[hn]
 refine qa5 (qb7 (wpAny_throw ?_));exact k _ _ (((Heap.SameBut.update ..).extBut.push _).push _) (?a1R ?gI)
theorem lP[?t4]{x y u v:Value}[?cC][?sY]
 [?sZ] [?ZY]
 (k:∀h',?EP->?OH->?F1->?X1->?SR->?DF →
   ?pC->Q (?dF) ?i3) :
 ?l ?a8 A (?a4Z z) (fun fin s'=>∃r,fin=.done (.ret r)/\Q r s') E s:=by
 ext ZL;ext XF
 replace ZU:?LP:=ZU
 ext XH;refine qa5 (J3 (g1.extBut ?d8 D.i1z) (e1.extBut ?d8 D.l1z) gx fun k2 f1 w2=>?qJ);have gb2:?aP k2 b u v:=?kY _ _ D.TOi1 (?d8 _ _ D.TOz gb);refine ?a1X gb2;refine qa5 (?PY gb2 fun k3 gb3 w3=>?_)
 replace gb3:?aP k3 b x v:=gb3
 refine qa5 (?RP ?oK);refine qa5 (?a2B wpAny_onRaise);show ?a0C (?uQ ?oQ>>=_) _;refine qa5 (J3 (((g2.extBut ?d8 D.i2z).extBut ?kY D.i12.symm).extBut ?gN ?MA) (((e2.extBut ?d8 D.l2z).extBut ?kY D.l2i1).extBut ?gN D.l2TO) gy fun k4 f2 w4=>?qJ);have gb4:?aP k4 b x v:=?pP _ _ D.TOi2 gb3;refine ?a1X gb4;refine qa5 (?PY gb4 fun k5 gb5 w5=>?_)
 replace gb5:?aP k5 b x y:=gb5
 refine qa5 (?RP ?WQ);refine ?a1X gb5;refine ?a2B wpAny_newTuple;have sz:?a3T k5.objs.size:=by rw[w5.1,w4.1,w3.1,w2.1,w1.1]
 have gz5:?a1W k5 ?o2:=?rK _ _ ?U1 (?pP _ _ D.i2z.symm (?gN _ _ ?U1 (?kY _ _ ?QN ZU)));have kp:∀c o,c≠z->c≠b->c≠i1->c≠i2->?AI->k5.get? c=?J:=fun c o c1 c2 c3 c4 e=>?rK _ _ c2 (?pP _ _ c4 (?gN _ _ c2 (?kY _ _ c3 (?d8 _ _ c1 e))));have f15:?DY i1 t1 ?E:=((f1.extBut ?gN ?G3).extBut ?pP D.i12).extBut ?rK ?G3;have f25:?DY i2 t2 ?lD:=f2.extBut ?rK ?MA;have lz:z<k5.objs.size:=qb2 gz5;show ?a0C (Builtin.SmallTypes.ownedTupleHandOut ?hJ ?GE>>=_) _;refine ?iA;unfold Builtin.SmallTypes.ownedTupleHandOut;have gz6:?a1W (k5.push { cls:=?lF,data:=?eF #[x,y] }) ?o2:=?a1S gz5;refine qa5 (qi3 gz6 ?W fun k7 gz7 w7=>?_)
 replace gz7:?a1W k7 ?JG:=gz7
 refine qi3 gz7 ?W fun k8 gz8 w8=>?_
 replace gz8:?a1W k8 ?JG:=gz8
 have up:∀c o,c≠z->k5.get? c=?J->k8.get? c=?J:=fun c o c1 e=>?NM _ _ c1 (?TG _ _ c1 (?a1S e));have gt:?aP k8 ?zJ x y:=?NM _ _ ?DW (?TG _ _ ?DW (?gI));have s8:k8.objs.size=k5.objs.size+1:=by rw[w8.1,w7.1,qi5]
 rw[sz]at gz8 gt s8;refine qb7 ?EU;show Q ?GE _;rw[sz];exact k k8 gz8 (up _ _ D.TOz gb5) (f15.at fun o e=>up _ o D.i1z e) (f25.at fun o e=>up _ o D.i2z e) gt s8 fun c o c1 c2 c3 c4 e=>up c o c1 (kp c o c1 c2 c3 c4 e)
theorem oH[?t4]{u v:Value}{Q:PySem.Fin->?i1}[?D0][?sY]
 [?sZ] (gx:?M0)
 (k:∀h' e,?pC->?TR) :
 ?a0D ?a8 (?a4Z z):=by
 ext ZL;ext XF
 replace ZU:?LP:=ZU
 ext XH;refine qa5 (Qd hn (g1.extBut ?d8 D.i1z) (e1.extBut ?d8 D.l1z) gx fun k2 e w2 he=>?_);obtain⟨oe,ge,ce⟩:=he;have gz2:?a1W k2 ?o2:=w2 _ _ ?QN ZU;have ne:e≠z:=fun q=>by subst q;rw[gz2]at ge;cases ge;simp at ce
 refine qi3 gz2 ?W fun k3 _ w3=>k k3 e (fun c o c1 _ c3 _ q=>?gN _ _ c1 (w2 _ _ c3 (?d8 _ _ c1 q))) ⟨oe,?gN _ _ ne ge,ce⟩
theorem Zj[?t4]{x y u v:Value}[?CI][?sY]
 [?sZ] [?ZY]
 (k:∀h',?EP->?OH->?F1->?X1->?SR->?DF →
   ?pC->Q (?e (?dF)) ?i3):?OT:=by
 ext Z6
 unfold pyNext;exact ?a0N (lP D gz ga gb g1 g2 e1 e2 gx gy fun h' a1 a2 a3 a4 a5 a6 a7=>qb7 (k h' a1 a2 a3 a4 a5 a6 a7))
theorem aA[?t4]{u v:Value}[?CI][?D0][?sY]
 [?sZ] (gx:?M0)
 (k:∀h',?pC->Q none ?i3):?OT:=by
 ext Z6
 unfold pyNext;refine ?a0N (oH hn D gz ga gb g1 g2 e1 e2 gx fun h' e kp he=>?_);obtain⟨o,q1,q2⟩:=he;exact qa5 (wpAny_isInstance (T:=?u6) (b:=true) ⟨o,q1,q2⟩ isSubtype_stop (qb7 (k _ kp)))
universe e9
noncomputable abbrev zt1(h:Heap)(a:Addr):Heap:=h.push ?F5
noncomputable abbrev zt2[?tN]:Heap:=(zt1 h a).push { cls:=?X "tuple_iterator",data:=?fF #[?b9,?wX] }
noncomputable abbrev zt3[?tN]:Heap:=(?JW).push { cls:=?lF,data:=?eF #[?o ?E0,?o (zt1 h a).objs.size] }
noncomputable abbrev zt4[?tN]:Heap:=(?QW).push { cls:=?lF,data:=?eF #[?aF,?aF] }
noncomputable abbrev XT[?tN]:Heap:=(zt4 h a b).push { cls:=?p4,data:=?fF #[?aF,?yI,?yI,?o (?JW).objs.size,?o (?QW).objs.size] }
theorem OG(a b:Addr)(xs ys:?iG):Meets (Builtin.«zip.__new__» ⟨[?p4,?aC,?b9],[]⟩) (fun _ R s=>?SN/\?JN/\R (.ok (.ret (?o ?BP))) { s with heap:=?u2 }) :=
 .of_wp fun prog w A R s h=>by
  obtain⟨hp,g,d,tk,os⟩:=s;obtain⟨h1,h2,h⟩:=h;have hsub:=sub_zip;have g1:?LH (?E4 ⟨hp,g,d,tk,os⟩) a xs:=h1;have g2:?LH (?E4 ⟨hp.push ?F5,g,d,tk,os⟩) b ys:=Heap.IsTuple.push h2 _
  wp_walk using qm9 g1,qm9 g2
  exact⟨_,rfl,h⟩
section
variable[?eT][?bQ][?eZ]
theorem NQ{a b:Addr}{xs ys:?iG}[?cC](h1:?SN)(h2:?JN)
 (k:∀h',?cK h' (?AM) (?xC) (?AE) ?aF->?aP h' (?xC) (?dF) (?o (?q8)) →
   ?aP h' (?AE) ?aF ?aF->?lI ?R a 0->?lI (?q8) b 0->h'.objs.size=?MF →
   (∀c o,?LM)->Q (?o (?AM)) ?i3):?a0D ?a8 (?fV (?p4) ?OB):=by
 refine callType_new F.called_zip ?M (F.typeCall_zip_2 _ _) (F.newCall_zip_2 _ _) (fun obj=>F.args_object_init_3 obj _ _) F.entry_zip_new (OG a b xs ys) ⟨h1,h2,?_⟩;have z1:?NS=?q8:=qi5 ..;have z2:?MU=?xC:=by rw[qi5,z1]
 have z3:?HA=?AE:=by rw[qi5,z2]
 have z4:?BP=?AM:=by rw[qi5,z3]
 have z5:(?u2).objs.size=?MF:=by rw[qi5,z4]
 have q5:?kD ?BP=?kH:=?gI;have q4:?kD ?HA=?kH:=?IY;have q3:?kD ?MU=?kH:=?QZ;have q2:?kD ?NS=?kH:=?XB;have q1:?kD ?R=?kH:=?a1S (?XB);show _/\_;rw[z2,z3,z4]at q5;rw[z1,z2]at q3;rw[z3]at q4;rw[z1]at q2;rw[z4];exact⟨(?a1R q5),k _ q5 q3 q4 ⟨_,q1,rfl,rfl⟩ ⟨_,q2,rfl,rfl⟩ z5 fun c o x=>?a1S (qa7 _ (qa7 _ (qa7 _ (qa7 _ x))))⟩
universe e9
def Ityp[?dT](a b:Addr):It :=
 ⟨fun i H=>∃xs ys x y,?oY/\?s6/\?q4/\?p2,
  fun i H v H'=>∃p x y,?cX/\v=?k6/\H'=?uE/\(∀xs,?oY->?q4)/\∀ys,?s6->?p2,
  fun i H=>∃xs ys,?oY/\?s6/\xs.length<=i⟩
theorem lQ[?aZ][?b0][?nB][?D5](a b z TI TO i1 i2:Addr)(D:?JR z TI TO i1 i2 a b) :
 Wf P w K (?a2J es) ?nN ?qI z (fun i h=>?cK h z TI TO ?aF/\?aP h TI ?oH ?oQ/\(∃c d,?aP h TO c d)/\?E3 i1 a i/\?E3 i2 b i) where
 mem:=?bK
 obj:=fun i h st c hc=>by
  obtain⟨hz,hTI,⟨u,v,hTO⟩,⟨o1,h1,c1,d1⟩,⟨o2,h2,c2,d2⟩⟩:=st;ext CA;ext C2
  . exact⟨_,hz,?F9⟩
  . exact⟨_,hTI,?PP⟩
  . exact⟨_,hTO,?PP⟩
  . exact⟨o1,h1,?FA⟩
  . exact⟨o2,h2,fun v q=>by rw[d2]at q;cases q⟩
 keep:=fun i h h' st k=>by
  obtain⟨hz,hTI,⟨u,v,hTO⟩,h1,h2⟩:=st;exact⟨k z ?W _ hz,k TI ?W _ hTI,⟨u,v,k TO ?W _ hTO⟩,h1.at fun o q=>k i1 ?W o q,h2.at fun o q=>k i2 ?W o q⟩
 item:=by
  ext eR;ext ZI;obtain⟨xs,ys,x,y,Xm,mT,hx,hy⟩:=hg;ext Y8;obtain⟨u,hu,ru⟩:=ra.get hx;obtain⟨v,hv,rv⟩:=rb.get hy;ext YT;have ltz:=qb2 hz;refine Zj D hz hTI hTO h1 h2 (?a40 ?d4 a) (?a3Z ?d4 b) (x:=u) (y:=v) (by simpa using hu) (by simpa using hv) fun h' hz' ZR GY h2' htup hsz hk=>?_;refine⟨_,rfl,wpAny_letOwnedTupleGo_zip hz' fun h3 hz3 Pa=>?_⟩
  replace Pa:?nV z h' h3:=Pa
  have kk:∀c o,?N6->?AI->?r5 c=?J:=fun c o hc e=>by
   ext Y7;exact(?eA c n1).trans (?X5)
  have UY:?a2Z u v:=(?eA _ (qk6 ltz)).trans htup;have hi1:?N3 i1 a ?i:=GY.at fun o e=>(?eA i1 D.i1z).trans e;have hi2:?N3 i2 b ?i:=h2'.at fun o e=>(?eA i2 D.i2z).trans e;have zS:?aP h3 TI ?oH ?oQ:=(?eA TI D.TIz).trans (hk _ _ D.TIz D.TITO D.TIi1 D.TIi2 hTI);have zR:?aP h3 TO u v:=(?eA TO D.TOz).trans ZR;have z9:∀c o,H c=?J->?N6:=fun c o e hm=>?MG
  have T8:∀c o,H c=?J->c≠s.heap.objs.size:=fun c o e=>Ao e ?q5;refine⟨?dF,?I6,?_,rfl,⟨?R,x,y,?q5,rfl,rfl,fun zs q=>by rw[?MS q Xm];exact hx,fun zs q=>by rw[?MS q mT];exact hy⟩,⟨hz3,zS,⟨_,_,zR⟩,hi1,hi2⟩,?bJ⟩
  . refine Bo.step (s:=s) (h':=h3) (t':=s.toks) (H':=?I6) I (g':=s.gens) (d':=s.drawn) (ch:=?qI) (?bJ) (fun c o _ _ hc e _=>?uX) (fun c o _ _ hc e _=>⟨o.slots,?uX⟩) (fun c o hc e n=>?_) (fun c o hc e=>⟨o,?uX⟩)
     (fun c zs e=>?M2) (fun c o w' e=>?M2) (fun c ps e=>⟨#[],by rw[Ai (T8 c _ e),e];simp⟩) (fun m hm=>?_) (fun c w' e=>?_) ?q7
    . have f:=hf c hc;ext Z3
    . rw[Ai (?NY)];exact n
    . obtain⟨o,es',ep,ho,r⟩:=hm;exact⟨o,es',ep,?a3V o ho,r⟩
    . by_cases hcs:?a3T c
      . subst hcs;rw[Ab]at e;cases e;exact⟨(?a3O 2),[u,v],?b6 ru (?b6 rv ?V),?Q6⟩
      . rw[Ai hcs]at e;refine(?bL c w' e).stay (fun c' y' hc' q=>?_) (fun c' q=>?XD) fun c' zs q=>?XD
        rcases hc' with rfl | hc'
        . exact ?a39 e
        . exact ?HG
  . have lb:?a15 c:=by
     ext CA;obtain⟨o1,q1,_⟩:=h1;obtain⟨o2,q2,_⟩:=h2;ext C2
     . exact ltz
     . exact qb2 hTI
     . exact qb2 hTO
     . exact qb2 q1
     . exact qb2 q2
    rw[Ai (qd1 lb)];exact(hf c hc).1
 done:=by
  ext eR;ext ZI;obtain⟨xs,ys,Xm,mT,hx⟩:=hg;ext Y8;have la:=ra.length;have lb:=rb.length;refine aA ?k3 D hz hTI hTO h1 h2 (?a40 ?d4 a) (?a3Z ?d4 b) ?_ fun h' hk=>⟨rfl,?a1O ?qI (fun c o hc e=>?_)⟩
  . simp;omega
  . ext Y7;exact ?X5
 self:=fun _ _ _ _ _ st h=>qv1 st.1 h
inductive sI[?dT][?tR](vs:?bM)(H1:Hp):Prop
 | mk:∀a b,(vs=?OB)->((∃xs,Ed K H1 a xs))->((∃ys,Ed K H1 b ys))->(R ?nN H1)->?LD
def Ap2[?dT](ta:TA):TI:=?a3K ?LD
theorem JK:bootBuiltins ?iC=?e (?p4):=?kU
theorem UA{X:Cx}[?b0][?nB][?D5]{a b:Expr}{ta:TA}{p pos:Pos}(hg:Gl X ?iC)(hm:?j5 ?iC=none)(ha:PA X ?qE ta)[?D3](hs:?e7 ?qE ?v=[?JV,?rE]:=by rfl)(hs2:?e7 [b] ?v=[?rE]:=by rfl) :
 PI X (?a2J es) (?a3H ?iC ?qE) (Ap2 K ta):=by
 subst hK;intro Ad s σ H R I h;refine Call_ (Mg I hg hm JK (qg8 (Dq (ha pos Ad s σ H _ I h) fun us s1 ⟨vs,H1,I1,r1,q1⟩=>?_) (by rw[hs,hs2]) (by rw[hs2];rfl)));obtain⟨la,lb,e,⟨xs,Xm⟩,⟨ys,mT⟩,q⟩:=q1;subst e;cases r1 with
 | cons ra rr =>
   cases rr with
   | cons rb rr =>
     cases rr;cases ra;cases rb;obtain⟨ia,_,pa,_⟩:=?F6 Xm;obtain⟨ib,_,pb,_⟩:=?F6 mT;have a1:la<s1.heap.objs.size:=by obtain⟨_,e,_⟩:=pa;exact qb2 e
     have a2:lb<s1.heap.objs.size:=by obtain⟨_,e,_⟩:=pb;exact qb2 e
     refine NQ (?a40 ?P4 la) (?a3Z ?P4 lb) fun h' hz hTI hTO hi1 hi2 hsz hk=>?_;refine qv1 hz ⟨?S1,[?S1,?a1L 2,?a1L 3,s1.heap.objs.size,?L9],_,_,H1,rfl,?a57 ?wE hk,lQ la lb _ _ _ _ _ (zipApart_new a1 a2),⟨hz,hTI,⟨_,_,hTO⟩,hi1,hi2⟩,?bJ,q⟩
     have lc:s1.heap.objs.size<=c:=by
      ext CA;ext C2
      . exact ?mH
      . exact ?mH
      . exact ?mH
      . ext dS
      . exact ?mH
     exact I1.fpOk lc (?WJ lc)
section
variable{g:TG}{tc:TT}[?t7]
theorem nO[?XL]
 (hs:∀i x y zs τ H p,?q4->?p2->?eJ->?cX->g ?e4 τ (?uE) ?OQ)
 [?CH]:?a24 ?nN tc:=by
 refine⟨fun i m zs τ H=>m=n-i/\?gK/\?eJ,?NR,?_⟩;rintro i m zs τ H ⟨rfl,hi,pp⟩;obtain⟨qa,qb⟩:=?V6;by_cases hlt:i<n
 . refine ?a3 (?a4A ⟨xs,ys,xs[i],ys[i],qa,qb,?w2,?w2⟩ ⟨n-?i,O9m,rfl,hlt,p'⟩);obtain⟨p,u,v,hp,rfl,rfl,y1,y2⟩:=y;exact hs i u v zs τ _ p (y1 xs qa) (y2 ys qb) pp hp
 . have e:i=n:=O9m
   subst e;exact ?L ⟨⟨xs,ys,qa,qb,O9m⟩,?D9⟩
universe e9
section
variable{κ:Type}[?W7 κ]
def Pc[?mY]:?hP V:=(kvs.find? ?wL).map (·.2)
def N9[?mY](v:V):?j7 :=
 if ?p8=true then ?d6 (?a0U (?aJ,v)) else kvs++[?eB]
def Wz[?mY]:?j7:=kvs.filter fun kv=>?a5 (?aJ≠k)
theorem Ya[?a03](e:?b8):?WU=?h6:=?EQ
theorem Yb[?a03](e:¬?b8):?WU=Pc r k:=?EQ
theorem eL(k:κ):∀kvs:?j7,?p8=?TN
 | []=>rfl
 | p::r=>by
   rw[ql8];ext jJ
   . simp only[Ya e,qf9 e,Bool.true_or,Option.isSome_some]
   . rw[Yb e,qj6 e,Bool.false_or];exact eL k r
theorem Qg[?mY](v:V):?WF<=kvs.length+1:=by
 unfold N9;split
 . rw[qa4];omega
 . rw[qc3,qd4,qm3];omega
theorem Nq.isSome_eq[?nG]{u:?m9}(r:Nq o u):o.isSome=u.isSome:=by
 cases o with
 | none=>cases u with
   | none=>rfl
   | some _=>ext tB
 | some _=>cases u with
   | none=>ext tB
   | some _=>rfl
theorem Nq.getD[?nG]{u:?m9}{d:V}{d':Value}(r:Nq o u)(rd:?aS d d'):?aS (o.getD d) (u.getD d'):=by
 cases o with
 | none=>cases u with
   | none=>exact rd
   | some _=>ext tB
 | some _=>cases u with
   | none=>ext tB
   | some _=>exact r
theorem KV.val[?gU](k:κ):Nq (?e5) (?p3):=by
 unfold KV at r
 induction r with
 | nil=>ext jK
 | @cons p q ps qs h t ih =>
   obtain⟨h1,h2⟩:=h;ext jJ
   . have e':q.1=k:=?pY;have b:?OA=?e q.2:=?RU
     rw[Ya e,b];exact h2
   . ext C4;have b:?OA=?B2 qs k:=?RU
     rw[Yb e,b];exact ih
theorem KV.any[?gU](k:κ):?p8=?EY:=by
 unfold KV at r
 induction r with
 | nil=>rfl
 | cons h t ih=>rw[ql8,ql8,ih,h.1]
theorem KV.repl[?gU](k:κ)[?nD][?h1] :
 KV (?d6 (?a0U (?aJ,y))) (vs.map (?a0U (?aJ,u))):=by
 unfold KV at r ⊢
 induction r with
 | nil=>exact ?V
 | @cons p q ps qs h t ih =>
   rw[qc5,qc5];refine ?PF;obtain⟨h1,h2⟩:=h;ext jJ
   . rw[?bG,?OG];exact⟨h1,ry⟩
   . ext ZK;exact ?lM
theorem KV.put[?gU](k:κ)[?nD][?h1]:KV (N9 kvs k y) (?zI vs k u):=by
 unfold N9 stored;rw[r.any k];by_cases e:(?EY)=true
 . rw[?bG,?bG];exact ?GN
 . rw[?c9,?c9];exact ?X6 r ⟨rfl,ry⟩
theorem KV.drop[?gU](k:κ):KV (?rJ) (without vs k):=by
 unfold KV at r ⊢;unfold Wz without
 induction r with
 | nil=>exact ?V
 | @cons p q ps qs h t ih =>
   obtain⟨h1,h2⟩:=h;rw[qm0,qm0];ext jJ
   . have a:¬?LO:=?DE
     have b:¬?FI:=by simp[?pY]
     rw[?f a,?f b];exact ih
   . ext C4;have a:?LO:=?DE
     have b:?FI:=by simp[e']
     rw[?m a,?m b];exact ?b6 ?lM ih
theorem KV.keys[?gU]:?d6 (·.1)=vs.map (·.1):=by
 unfold KV at r
 induction r with
 | nil=>rfl
 | cons h t ih=>rw[qc5,qc5,ih,h.1]
theorem KV.length[?gU]:kvs.length=vs.length:=?JM r
theorem GF[?mY]:(?rJ).length<=kvs.length:=qj8 _ _
universe e9
theorem kV_is[?aZ]{k:Key}{u:Value}(r:?wM):?DH:=by
 cases k with
 | inl i=>obtain⟨t,e⟩:=(show ?UH from r);subst e;exact fT P w i t
 | inr x=>obtain⟨t,e⟩:=(show ?H5 from r);subst e;exact fS P w x t
theorem bF[?aZ]:∀{ks:?g2}{us:?sB},Vals (ks.map kV) us->ItemsAre ?gC ks us
 | [],_,r=>by rw[qr0]at r;cases r;exact ?V
 | k::ks,_,r=>by
   rw[qc5]at r;cases r with
   | cons h t=>exact ?b6 (?oP h) (bF t)
noncomputable abbrev KT(H:Hp):?mV->?yO->Prop:=Paired fun p q=>p.1=q.1/\H q.2.1=?e (?aM (p.1.map kV))/\?aS p.2 q.2.2
theorem KT.val{H:Hp}[?t1](k:?g2):Nq (?e5) (?IK (·.2)):=by
 induction r with
 | nil=>ext jK
 | @cons p q ps qs h t ih =>
   obtain⟨h1,_,h2⟩:=h;ext jJ
   . have e':q.1=k:=?pY;have b:?U3=?e q.2:=?WO
     rw[Ya e,b];exact h2
   . ext C4;have b:?U3=atKey qs k:=?WO
     rw[Yb e,b];exact ih
theorem KT.repl{H:Hp}[?t1](k:?g2)[?nD][?h1] :
 KT H (?d6 (?a0U (?aJ,y))) (xs.map (putAt k u)):=by
 induction r with
 | nil=>exact ?V
 | @cons p q ps qs h t ih =>
   rw[qc5,qc5];refine ?PF;obtain⟨h1,h2,h3⟩:=h;unfold putAt;ext jJ
   . rw[?bG,?OG];exact⟨h1,h2,ry⟩
   . ext ZK;exact⟨h1,h2,h3⟩
theorem KT.put{H:Hp}[?t1](k:?g2){b:Addr}[?nD](hb:?yV)[?h1] :
 KT H (N9 kvs k y) (storedH xs k b u):=by
 have e:?p8=?W0:=by
  rw[eL,(r.val k).isSome_eq,Option.isSome_map]
 unfold N9 storedH;rw[e];by_cases q:?W0=true
 . rw[?m q,?m q];exact ?GN
 . rw[?f q,?f q];exact ?X6 r ⟨rfl,hb,ry⟩
theorem KT.keeps{H H':Hp}[?t1](ht:∀b ys,H b=?e (?aM ys)->H' b=?e (?aM ys)):KT H' kvs xs :=
 Paired.mapP r fun _ _ z=>⟨z.1,ht _ _ z.2.1,z.2.2⟩
section
variable[?aZ]{H:Hp}{h:Heap}{a:Addr}
theorem wD{u:HO}[?jL](e:Rd H a u):?a31 u:=e.ok ok
theorem Uk[?bD][?jL][?CV]:?JL :=
 show ?a31 ?bW from wD ok e
theorem GG[?bD][?jL][?jF]:?JL:=Uk ok (?L e)
theorem CZ{ks:?g2}[?jL](e:H a=?e (?aM (ks.map kV))):?GK h ks a:=by
 obtain⟨_,its,r,o,h1,h2,_,n,h3⟩:=(show ?a31 (?aM (ks.map kV)) from ok a _ e)
 exact⟨o,?o9,n,h1,h2,h3,by simpa using bF r⟩
theorem gF{kvs:?mV}[?jL](e:?zT):?lS/\?fC ∧
 ?S6:=by
 obtain⟨z,y,xs,r,o,es,ep,h1,h2,h3,h4,h5⟩:=(show ?a31 (.dT kvs) from wD ok e)
 refine⟨z,y,xs,r,o,es,ep,h1,h2,h3,h4,?sM,h5⟩
 have all:∀{l:?mV}{m:?yO},KT H l m->∀x∈m,?GK h x.1 ?rQ:=by
  intro l m q
  induction q with
  | nil=>intro x hx;exact nomatch hx
  | @cons p q ps qs hq t ih =>
    intro x hx;rcases qc0.mp hx with e | hx
    . subst e;exact CZ ok (by rw[←hq.1];exact hq.2.1)
    . exact ih x hx
 exact all r x hx
theorem Au0{kvs:?mV}[?jL](e:H a=?e (.dT kvs)):?lS/\?fC ∧
 ?S6:=gF ok (?L e)
universe e9
def DGet(H:Hp)(a:Addr)(y:V)(r:?hP V):Prop :=
 (∃kvs k,?l6/\y=?dM/\r=?e5)\/∃kvs k b,?zT/\y=?b9/\?yV/\r=?e5
def Ac8(H:Hp)(a:Addr)(y v:V)(H':Hp):Prop :=
 (∃kvs k,?qT/\y=?dM/\?X7/\H'=?a20 a (.dK (?v5))) ∨
 ∃kvs k b,H a=?e (.dT kvs)/\y=?b9/\?yV/\?X7/\H'=?a20 a (.dT (?v5))
section
variable[?cY]{y v:V}{u r:Value}[?nG][?bQ]
theorem Bo.big[?a0]:?a15 sysModules:=by
 have h:?a15 mainGlobals:=(I.mod.glob.keeps I.bk).lt;exact qu5 ?M h
theorem nK[?cC][?CY][?a0](g:DGet H a y (?dL))[?h1](h:∀w' s',?u7->?TO) :
 ?a0D ?eQ (?x1 ?dJ u):=by
 ext YV
 . subst ey;ext C5;obtain⟨w',hw,rw'⟩:=?BD (v:=v) (o:=?p3) (by rw[l];exact ?fI);exact wpAny_getItem_of ?iN ?KG hw (?VV)
 . ext Y1;obtain⟨w',hw,rw'⟩:=?BD (v:=v) (o:=?IK (·.2)) (by rw[l];exact ?fI);obtain⟨p,hp,hp2⟩:=qj2.mp hw;refine wpAny_getItem_heap (?a2U hu) (?x5) dd hp ?_;rw[hp2];exact ?VV
theorem Uo{h':Heap}{t':Nat}{ob:HO}[?a0](mu:Mut (H a))(hs:?nV a ?U h')(he:?PV)(new:?gT ?hM X.w (?a20 a ob) h' a ob) :
 Bo X Ad σ (?a20 a ob) { s with heap:=h',toks:=t' } :=
 I.write (x:=a) (e:=a) mu (?L rfl) (fun b q hb z=>(hs.2 b hb).trans z) he new
theorem V5[?aZ]{H':Hp}{h':Heap}[?bD][?tI](z:?lS)(hd:?fC)(rel:?hH)(dd:?HR ?gC a vs) :
 ?gT P w H' h' a ?bW:=⟨z,hd,vs,rel,dd⟩
theorem NH{H':Hp}[?CT][?CY][?a0](g:Ac8 H a y v H')[?h1](rv:?aS v r)(h:∀s',?PN->Q () s') :
 ?a0D ?eQ (setItem ?dJ u r):=by
 rcases g with⟨kvs,k,e,ey,l,eH⟩|⟨kvs,k,b,e,ey,eb,l,eH⟩
 . subst ey eH;ext t5;have hz:?a2A vs.length:=?p1
   ext YE
   refine wpAny_setItem_pairs (hsz:=hz) ?iN dd ?yX;ext BU
   exact Uo I ?r6 hs he (V5 hl hd (rel.put k rv) JA)
 . subst ey eH;cases (show u=?dK b from ry);obtain⟨z,hd,xs,rel,dd⟩:=Au0 ?bL e;have hz:?a2A xs.length:=by rw[←?JM rel];exact z
   ext YE
   refine wpAny_setItem_heap (hsz:=hz) (?a2U hu) (?x5) dd ?yX;obtain⟨q,es,ep,hq,h2,h3,h4,_,h5⟩:=JA;refine Uo I ?r6 hs ?ED ⟨hl,hd,_,(rel.put k eb rv).keeps fun c ys ec=>?_,q,es,ep,hq,h2,h3,h4,h5⟩;rw[Ai (Fh ec e (fun z=>nomatch z))];exact ec
universe e9
section
variable[?cY][?bD]{k:Key}{u:Value}[?bQ]
theorem Af7[?CT][?a0][?jF][?D4](l:?TN=true)(h:∀s',?I5->Q () s') :
 ?a0D ?eQ (delItem ?dJ u):=by
 ext t5
 refine wpAny_delItem_slot ?fH ?M ?GS
  (?iJ ?GS ?fH PySem.F.entry_dict_delitem (PySem.F.args_dict_delitem_2 _ _) (meets_dict_delitem_pairs ?dA a ?iN) ⟨vs,dd,?p1,by rw[←(?fI).isSome_eq];exact l,?yX⟩)
 ext BU
 ext XY
theorem Au1{v:V}{more:?sB}[?cC][?a0][?jF][?D4](l:?e5=?dL)(hm:more=[]\/∃x,more=[x])
 (h:∀w' s',?I5->?TO):?a0D ?eQ (?fV ?UW (?OW)):=by
 ext t5;obtain⟨w',hw,rw'⟩:=?BD (v:=v) (o:=?p3) (by rw[←l];exact ?fI)
 have hp:?VB:=by
  cases k with
  | inl i=>ext YF
  | inr x=>ext YG
 have ha:argsOk ?NF ⟨?OW,[]⟩:=by
  rcases hm with q|⟨x,q⟩
  . subst q;exact PySem.F.args_dict_pop_2 _ _
  . subst q;exact ?K1
 refine ?iJ qu2 ?fH ?OF ha (meets_dict_pop_there ?dA a ?iN more hm hp)
  ⟨vs,w',dd,?p1,hw,fun h' JA hs=>h w' _ ?_ rw'⟩
 ext BU
 ext XY
theorem Aa1{r:Value}[?cC][?a0][?jF][?D4](l:?GU)(h:∀s',?u7->Q r s') :
 ?a0D ?eQ (?fV ?UW ?OO):=by
 ext t5;have hn:?p3=none:=Nq.none_of (by rw[←l];exact ?fI)
 have hp:?VB:=by
  cases k with
  | inl i=>ext YF
  | inr x=>ext YG
 exact ?iJ qu2 ?fH ?OF (?K1) (meets_dict_pop_default ?dA a ?iN hd hp r) ⟨vs,dd,hn,h _ ?sN⟩
universe e9
def NoSl(i:Expr):Prop:=∀ov iv,?GL i ?c0 ov iv=operate [ov,iv] (?x1 ov iv)
theorem TL[?eT][?bQ][?eZ]{env:Env}{value slice:Expr}{pos:Pos}{T id:String}[?cC]
 (hl:?UY (?X T) "__getitem__"=pure (?e (?i9 id))) (hs:NoSl ?sC)
 (h:?l ?a8 A (?b2 ?eO env) (fun o s₁=>?l ?a8 A (?b2 ?sC env) (fun i s₂=>s₂.TypeIs o T/\?l ?a8 A (?x1 o i) Q E s₂) E s₁) E s) :
 ?a0D ?a8 (?b2 (?A9 ?eO ?sC pos) env):=by
 refine Subscript_ (qk4 h (fun o s₁ h₁=>qk4 h₁ (fun i s₂ h₂=>?_) ?zP) ?zP);obtain⟨hT,h₂⟩:=h₂;unfold subscriptTail;refine ?iA;rw[getitemInPython_of_ne hT.not_modules];refine qa5 (wpAny_specialOf hT hl ?_)
 have fin:?l ?a8 A (?GL ?sC ?c0 o i) (fun r s₃=>?l ?a8 A (letTemporaryGo ?eO o r>>=fun _=>pure r) Q E s₃) E s₂:=by
  rw[hs o i];exact wpAny_operating (qk4 h₂ (fun r s₃ h₃=>qa5 (wpAny_letTemporaryGo (qb7 h₃))) ?zP)
 first
  | exact qb7 (qa5 fin)
  | exact qa5 (qb7 (qa5 fin))
  | exact qa5 fin
theorem gH[?cY]{y:V}[?nG][?a0](g:?TY):?B9:=by
 rcases g with⟨kvs,k,e,_,_⟩|⟨kvs,k,b,e,_,_,_⟩
 . obtain⟨_,_,vs,_,dd⟩:=?hN;exact dd.typeIs
 . obtain⟨_,_,xs,_,dd⟩:=?z8;exact dd.typeIs
inductive rZ(Q:VK)(x:V)(y:V)(H2:Hp):Prop
 | mk:∀a v,(x=?aC)->(DGet H2 a y (?dL))->(Q v H2)->?R0
def Aj6(td ty:TE):TE:=fun σ H Q=>td σ H fun x H1=>ty σ H1 fun y H2=>?R0
inductive sA(D:Ends)(σ:St)(v:V)(x:V)(y:V)(H3:Hp):Prop
 | mk:∀a H4,(x=?aC)->(Ac8 H3 a y v H4)->(D.nx σ H4)->?X9
def Ak5(td ty tv:TE):TS:=fun D σ H=>tv σ H fun v H1=>td σ H1 fun x H2=>ty σ H2 fun y H3=>?X9
section
variable{X:Cx}{o i e value:Expr}{pos pos' tpos:Pos}{td ty tv:TE}
theorem Lq[?C9](hi:?DI)(hs:NoSl i):PE X (?A9 o i pos) (Aj6 td ty):=by
 ext tK;refine TL PySem.F.slot_dict_getitem.lookup hs (Dq (?a4Y ho) fun u s1 ?PS=>Dq (?a0S hi) fun iv s2 _z=>?_);obtain⟨y,H2,I2,ry,a,v,ex,g,q2⟩:=_z;subst ex;obtain rfl:u=?dK a:=rx;exact⟨gH I2 g,nK hu I2 g ry fun w' s3 I3 rw'=>⟨v,H2,I3,rw',q2⟩⟩
theorem Tz[?C9](hi:?DI)(hv:?JS)(hs:?a3M ?RG) :
 PS X (.Assign [?RG] ?eO pos) (Ak5 td ty tv):=by
 intro Ad s σ H D I h;refine wpAny_Assign_Subscript (Dq (?a4Y hv) fun r s1 ⟨v,H1,I1,rv,q1⟩=>Dq (?a0S ho) fun u s2 ⟨x,H2,I2,rx,q2⟩=>Dq (hi Ad s2 σ H2 _ I2 q2) fun iv s3 _z=>?_) hs;obtain⟨y,H3,I3,ry,a,H4,ex,g,q3⟩:=_z;subst ex;obtain rfl:u=?dK a:=rx;exact NH hu I3 g ry rv fun s4 I4=>⟨σ,H4,I4,q3⟩
universe e9
theorem dk_empty[?aZ]{H:Hp}(h:Heap)(hb:sysModules<h.objs.size):?gT P w H (h.push ?U6) ?E0 (?i8) :=
 ⟨?aG,?a2L hb,[],?V,?N4 h⟩
def YC:TE:=fun _ H Q=>?a5E (?i8)
section
variable[?tU]
theorem K4:PE X (.Dict [] [] pos) YC:=fun Ad s σ H Q I h =>
 wpAny_Dict_empty ⟨?dF,_,?nW (a:=s.heap.objs.size) (o:=?i8) (t':=s.toks) (fun _ _ q=>?a1S q) ?g (dk_empty ?U I.big),rfl,h _ (?k4 ?g)⟩
universe e9
def tPairs:?mF->St->Hp->(?SQ)->Prop
 | [],_,H,Q=>Q [] H
 | (tk,tv)::r,σ,H,Q=>tk σ H fun x H1=>tv σ H1 fun y H2=>?yP r σ H2 fun ps H3=>Q (?QE) H3
noncomputable abbrev VV:?a22 V V->?a22 Value Value->Prop:=Paired fun p q=>?aS p.1 q.1/\?aS p.2 q.2
def PPs(X:Cx)(pos:Pos)(keys:?zE)(values:?eP)(tD:?mF):Prop :=
 ∀(Ad:Bn) (s:Shared) (σ:St) (H:Hp) (Q:?SQ),?JB->?yP tD σ H Q →
   ?l ?eQ X.A (evalPairs (pairTrees keys ?A4 ?v pos)) (fun vs s'=>∃ps H',?PN/\VV ps vs/\Q ps H') X.xe s
theorem CF[?tU]:PPs X pos [] [] []:=fun Ad s σ H Q I h=>pairTrees_nil_walk ⟨[],H,I,?V,h⟩
theorem Y1[?tU]{k v:Expr}{ks:?zE}{vs:?eP}{tk tv:TE}{tD:?mF}(hk:PE X k tk)(hv:PE X v tv)(hr:PPs X pos ks vs tD) :
 PPs X pos (?e k::ks) (v::vs) ((tk,tv)::tD):=fun Ad s σ H Q I h =>
 pairTrees_cons_walk (Dq (?a4Y hk) fun u s1 ?PS=>Dq (?a0S hv) fun w2 s2 ?zR =>
  Dq (hr Ad s2 σ H2 _ I2 q2) fun ws s3 ⟨ps,H3,I3,rel,q3⟩=>⟨?QE,H3,I3,?b6 ⟨rx,ry⟩ rel,q3⟩)
def Iz(kvs more:?c7):?c7:=more.foldl (fun acc kv=>N9 acc ?aJ kv.2) kvs
theorem KV.merge:∀{more:?c7}{rs:?rR}[?bD][?tI],KV more rs->?hH->KV (?uW) (merged vs rs):=by
 intro more rs kvs vs r;unfold KV at r
 induction r generalizing kvs vs with
 | nil=>intro q;exact q
 | @cons p q ps qs h t ih =>
   intro r0
   have e:KV ?oU (?zI vs q.1 q.2):=by
    have:=r0.put p.1 h.2;rw[←h.1];ext a1
   exact ih e
theorem Mf:∀(more kvs:?c7),(?uW).length<=kvs.length+more.length
 | [],kvs=>by show kvs.length<=kvs.length+0;omega
 | p::r,kvs=>by
   have h1:=Mf r ?oU;have h2:=Qg kvs p.1 p.2;show(Iz ?oU r).length<=_;rw[qd4];omega
theorem f7[?aZ]:∀[?bD]{ws:?a22 Value Value},VV (?d6 ?FP) ws->∃rs,Carries ?gC ws rs/\KV kvs rs
 | [],_,r=>by rw[qr0]at r;cases r;exact⟨[],True.intro,?V⟩
 | p::kvs,_,r=>by
   rw[qc5]at r;cases r with
   | @cons a b as bs h t =>
     obtain⟨rs,c,q⟩:=f7 (P:=P) (w:=w) t;obtain⟨b1,b2⟩:=b;exact⟨(p.1,b2)::rs,⟨?oP h.1,rfl,c⟩,?b6 ⟨rfl,h.2⟩ q⟩
def Aj5(tD:?mF):TE:=fun σ H Q=>∀p,?cX->?yP tD σ (?a20 p (?i8)) fun ps H2=>H2 p=?e (?i8)/\∃kvs:?c7,ps=?d6 (?FP)/\kvs.length<=15/\Q ?e4 (upd H2 p (.dK (?kC)))
theorem cI[?tU]{keys:?zE}{values:?eP}{tD:?mF}(h:PPs X pos keys ?A4 tD)(hall:keys.all (·.isSome)=true)(hl:keys.length=values.length)(h0:keys≠[])
 (h15:keys.length<=15):PE X (.Dict keys ?A4 pos) (Aj5 tD):=by
 intro Ad s σ H Q I q;have hn:=?k4 (qa1 ?R);have I1:=?nW (a:=s.heap.objs.size) (o:=?i8) (h':=?oC) (t':=s.toks) (fun _ _ q=>?a1S q) ?g (dk_empty ?U I.big);refine wpAny_Dict_walk (knd:=?yZ) hall hl h0 h15 (Dq (h Ad _ σ _ _ I1 (q _ hn)) fun ws s2 _z=>?_);obtain⟨ps,H2,I2,rel,e,kvs,ep,lk,q2⟩:=_z;subst ep;obtain⟨rs,c,rk⟩:=f7 (P:=X.prog) (w:=X.w) rel;obtain⟨z,hd,vs0,r0,dd⟩:=GG I2.hok e;cases r0;refine⟨rs,c,dd,fun h' JA hs=>⟨?dF,_,?_,rfl,q2⟩⟩
 have hz:?GD:=by
  have h1:=?SA;rw[qm3]at h1;rw[sizeLine_eq];omega
 have he:∃q,?kF ?R=?e q:=?VF
 exact Uo I2 ?r6 hs he (V5 hz hd (rk.merge ?V) JA)
structure M2(X:Cx)(o:Expr)(m:Str)(apos:Pos)(e f:Expr)(cpos:Pos):Prop where
 base:?uH o m ?v (?r9)=?r9
 few:((?V2).all (fun x=>!x.1)&&(?v3 ?gJ (keywordEach [] ?v)).all (fun x=>x.1.isSome)
  && ?a5 ((?sK:?eP).length+([]:?JP).length+(if ([]:?JP).isEmpty then 0 else 1)<30))=true
 line:?MT
 trees:?V2=[?BA,(?c0,?a58 f)]
def IsD(H:Hp)(a:Addr):Prop:=(∃kvs,?l6)\/∃kvs,?zT
theorem QN[?cY][?a0](d:IsD H a) :
 ?B9/\(∀b,?dK a=?b9->∃ob,?HQ/\ob.dict=none)/\?fC:=by
 rcases d with⟨kvs,e⟩|⟨kvs,e⟩
 . obtain⟨_,hd,vs,_,dd⟩:=?hN;ext XR
 . obtain⟨_,hd,xs,_,dd⟩:=?z8;ext XR
section
variable[?cY]{y d:V}{u r:Value}[?nG][?bQ]
theorem Aa4[?cC][?CY][?a0](g:?TY)[?h1](rd:?aS d r)(h:∀w' s',?u7->?aS (o.getD d) w'->Q w' s') :
 ?a0D ?eQ (?fV (?i9 "dict.get") ?OO):=by
 ext YV
 . subst ey;ext C5;refine ?iJ qu3 ?fH ?M6 (?a44 _) (meets_dict_get_default ?dA a ?iN hd r) ⟨_,?KG,?I1⟩;rw[l];exact(?fI).getD rd
 . ext Y1;refine ?iJ qu3 ?fH ?M6 (?a44 _) (meetsH_dict_get_default (?AY ?dA) a b hd r) ⟨?a2U hu,k,xs,?x5,dd,?I1⟩;rw[l];exact(?fI).getD rd
universe e9
inductive ItDGet2(ty:TE)(tx:TE)(σ:St)(Q:VK)(x:V)(H1:Hp):Prop
 | mk:∀a,(x=?aC)->(?JK)->(ty σ H1 fun y H2=>tx σ H2 fun z H3=>∃o,DGet H3 a y o/\Q (o.getD z) H3)->?FX
def yD(td ty tx:TE):TE:=fun σ H Q=>?a36 ?FX
def yC(td ty tx:TE):TE:=fun σ H Q=>td σ H fun x H1=>∃a,x=?aC/\?JK/\ty σ H1 fun y H2=>tx σ H2 fun z H3=>∃kvs k,H3 a=?e ?bW/\y=?dM ∧
 (∀v,?e5=?dL->Q v (upd H3 a (.dK (?rJ))))/\(?GU->Q z H3)
section
variable{X:Cx}{o e f:Expr}{apos cpos:Pos}{td ty tx:TE}
theorem M7[?C9](he:?WK)(hf:?MY)(m:M2 X o "get" ?cA e f ?gJ):?a1Z "get" yD:=by
 ext tK;refine ?a0R qu3 PySem.F.type_dict_get;ext XO
 refine qp7 rfl (qw8 (qp2 (Dq (?a0S he) fun iv s2 ?zR =>
  ?a0W ⟨z,H3,I3,rz,ov,g,q3⟩)))
 exact Aa4 hu I3 g ry rz fun w' s4 I4 rw'=>⟨_,H3,I4,rw',q3⟩
theorem PK(ho:?EF)(he:?WK)(hf:?MY)(m:M2 X o "pop" ?cA e f ?gJ):?a1Z "pop" yC:=by
 ext tK;refine ?a0R qu2 PySem.F.type_dict_pop;ext XO
 refine qp7 rfl (qw8 (qp2 (Dq (?a0S he) fun iv s2 ?zR =>
  ?a0W ⟨z,H3,I3,rz,kvs,k,ea,ey,q3,q4⟩)))
 subst ey;cases l:Pc kvs k with
 | some v=>exact Au1 I3 ea ry l (?a3 ⟨fv,rfl⟩) fun w' s4 I4 rw'=>⟨v,_,I4,rw',q3 v l⟩
 | none=>exact Aa1 I3 ea ry l fun s4 I4=>⟨z,H3,I4,rz,q4 l⟩
universe e9
section
variable[?cY][?bD][?bQ]
theorem RE[?cC][?a0][?CV](h:∀p s',?cX->?a10 (upd H p ?bW) s'->Q ?e4 s'):?a0D ?eQ (?fV (?X ?gD) ?mP):=by
 ext C5;refine kt_call_dict hd dd (?p1) fun h' JA hs=>?_;refine h _ _ (?k4 ?g) (?nW (a:=s.heap.objs.size) (o:=?s9) (t':=s.toks) (fun b q hq=>?_) ?g (V5 z (?a2L I.big) rel JA));exact(hs.2 b (?a41 hq)).trans (?a1S hq)
universe e9
section
variable[?cY][?nD][?bQ]
universe e9
section
variable{X:Cx}
universe e9
universe L2
namespace L2
open PySem PySem.Spec PyProof.Rows PySem.SeqAt
def cK[?bC]:?c7:=?iK fun p=>(?s3,?aU p.2)
def lookI[?bC](k:Int):?hP Int:=(ms.find? ?gS).map (·.2)
inductive Pb:?t ?qU->?e6->Prop
 | nil:Pb [] []
 | cons {e:DictEntry}{k v:Int}[?n4][?cD]{t t':Tok}:?SX->?WR->?GR->?kJ->Pb ?eN (?eB::ms)
theorem Pb.length[?n4][?cD](h:?kJ):es.length=ms.length:=by
 induction h with
 | nil=>rfl
 | cons _ _ _ _ ih=>simp[ih]
theorem Pb.get[?n4][?cD](h:?kJ):∀{i:Nat}{e:DictEntry},?a5B es e->∃k v t t',ms[i]?=?xJ/\?SX/\?WR/\?GR:=by
 induction h with
 | nil=>intro i e q;simp at q
 | @cons e0 k v es ms t t' h1 h2 h3 _ ih =>
   intro i e q;cases i with
   | zero =>
     have:e0=e:=?fR
     subst this;exact⟨k,v,t,t',?bK,h1,h2,h3⟩
   | succ i =>
     obtain⟨k',v',t1,t2,q1,q2⟩:=ih (i:=i) (e:=e) (?fR);exact⟨k',v',t1,t2,?HB,q2⟩
theorem Pb.find[?n4][?cD](h:?kJ)(k:Int):es.findIdx? (fun e=>?fE k e.key)=?RN ?gS:=by
 induction h with
 | nil=>rfl
 | @cons e0 k0 v es ms t t' h1 h2 h3 _ ih =>
   rw[qv9,qv9,h1,ih]
   have e:?fE k (?p k0 t)=?a5 (k0=k):=by
    by_cases q:k0=k
    . subst q;ext n6
    . simp[Value.isInt,q];try exact ?SU
   rw[e]
structure U0(h:Heap)(a:Addr)[?bC]:Prop where
 ex:∃o es ep,h.get? a=?J/\o.ExactDict/\?wN/\?KS
 sys:?fC
 nd:(?iK (·.1)).Nodup
theorem U0.typeIs[?eZ]{a:Addr}[?cD](x:?uN):?B9:=let ⟨o,_,_,ho,hc,_⟩:=x.ex;⟨o,ho,hc.1⟩
theorem iO[?cD]{k:Int}(h:?Q2=none):?fY=none:=by
 unfold lookI;rw[List.findIdx?_eq_none_iff]at h;rw[List.find?_eq_none.mpr (fun p hp=>by have:=h p hp;simpa using this)];rfl
theorem iN[?cD]{k:Int}{j:Nat}(h:?Q2=?e j):∃v,ms[j]?=?xJ/\?fY=?dL:=by
 induction ms generalizing j with
 | nil=>simp at h
 | cons p ms ih =>
   rw[qv9]at h;by_cases q:?b8
   . rw[qf9 q,?r]at h;cases h;refine⟨p.2,by simp[←q],?_⟩;unfold lookI;rw[List.find?_cons_of_pos (?fR)];rfl
   . rw[qj6 q,if_neg (by decide)]at h;cases h2:ms.findIdx? (fun p=>decide (p.1=k)) with
     | none=>rw[h2]at h;cases h
     | some j' =>
       rw[h2]at h;have e:j=j'+1:=by simpa using h.symm
       subst e;obtain⟨v,h3,h4⟩:=ih h2;refine⟨v,by simpa using h3,?_⟩;unfold lookI at h4 ⊢;rw[List.find?_cons_of_neg (?fR)];exact h4
theorem vN(fs:?wZ)(p:?qU->Bool):?w4 p=fs.toList.findIdx? p:=by
 cases fs;simp
theorem Ap1[?eT][?bQ][?eZ]{x y:Int}{t u:Tok}{Q:?JY}(h:Q (?a5 (x=y)) s):?a0D ?a8 (eqBool ?WA ?SE) :=
 (?nI).eqBool (by show ?fE x ?WA=true;ext n6) (by show ?fE y ?SE=true;ext n6) h
theorem ZD[?eT]{es:?wZ}[?cD](h:?KS):KeysOf (?nI) es:=by
 intro e he;obtain⟨i,hi,rfl⟩:=Array.mem_iff_getElem.mp he;obtain⟨k,v,t,t',_,h1,h2,_⟩:=h.get (i:=i) (e:=es[i]) (by simp[hi]);exact⟨k,by show ?fE k _=true;rw[h1];ext n6,h2⟩
theorem CC[?eT][?bQ][?eZ]{id:String}{a b:Addr}{ms ns:?e6}{Q:?JY}(ha:?uN)(hb:U0 ?U b ns)
 (h:Q (?IF) s):?a0D ?a8 (Builtin.Dict.samePairs id a b):=by
 obtain⟨oa,es,ep,hoa,_,hda,hea⟩:=ha.ex;obtain⟨ob,fs,SS,hob,_,hdb,heb⟩:=hb.ex;have la:es.size=ms.length:=by rw[←hea.length];simp
 have lb:fs.size=ns.length:=by rw[←heb.length];simp
 unfold Builtin.Dict.samePairs
 have sh:∀{c:Addr}[?CT],(c==sysModules)=false->Q () s->?a0D ?a8 (Builtin.Dict.showsAll c):=fun {c Q} hc hq=>by
  unfold Builtin.Dict.showsAll;rw[?f (by rw[hc];exact qd8)];exact qb7 hq
 refine qa5 (sh ha.sys (qa5 (sh hb.sys ?_)));refine ?a38 qu1 (qa5 (qu1 hob hdb ?_));by_cases hl:ms.length=ns.length
 . rw[?f (by simp[la,lb,hl])];have e0:(?y1)=true:=?PW
   rw[e0,Bool.true_and]at h;refine ?a38 wpAny_dictEpoch ?_;rw[Std.Legacy.Range.forIn_eq_forIn_range']
   refine qa5 (qk4 (wpAny_forIn_list _ (fun rest r s'=>s'=s/\r=(none,())/\∃i,rest=?vL i (?W5) 1/\i<=ms.length/\∀p∈ms.take i,?b4 ns p.1=?h6)
    (fun r s'=>s'=s/\((r=(none,())/\(?a0X ns)=true)\/(r=(?e ?c0,())/\(?a0X ns)=false))) ?_ ?_ _ _ ⟨rfl,rfl,0,?_,?aG,?bK⟩) (fun r s' hr=>?_) ?UI)
   . rintro i rest r s' ⟨rfl,rfl,i1,hr,hi,hd⟩
     have hlt:i1<ms.length:=by
      ext gY;rw[?a0O ?TT 0]at hr;cases hr
     rw[?a4M ?TT (i1+1),List.range'_succ]at hr;cases hr;have hie:i<es.size:=O9m
     obtain⟨k,v,t,t',hm,h1,h2,h3⟩:=hea.get (i:=i) (e:=es[i]) (by simp[hie])
     have hmi:ms[i]=?eB:=by
      rw[qa0 hlt]at hm;exact qd7 hm
     refine ?a38 qu1 ?_;rw[?UG hie];dsimp only;refine qa5 (qk4 (Q:=fun same s''=>s''=s'/\same=?a5 (?AX=?dL)) (qn4 ?_) (fun same s'' hs=>?_) ?UI)
     . rw[h1,h2];refine qa5 (wpAny_dictFind_of (knd:=?nI) (k:=k) (show ?fE k (?p k t)=true from by ext n6) hob hdb (ZD heb) ?_)
       have ef:(?w4 fun e=>(?nI).is k e.key)=ns.findIdx? ?gS:=by
        rw[←heb.find k];show ?w4 (fun e=>?fE k e.key)=_;exact vN _ _
       rw[ef];cases hf:ns.findIdx? (fun p=>decide (p.1=k)) with
       | none =>
         dsimp only;refine qb7 ?zU;rw[iO hf];rfl
       | some j =>
         obtain⟨v',hj,hl2⟩:=iN hf;have hjn:j<ns.length:=(?kV hj).1;have hjf:j<fs.size:=O9m
         obtain⟨k2,v2,t2,t2',hm2,g1,g2,g3⟩:=heb.get (i:=j) (e:=fs[j]) (by simp[hjf]);rw[hj]at hm2;cases hm2;dsimp only;refine qa5 (qu1 hob hdb ?_);rw[?UG hjf];dsimp only;refine qn4 ?_;rw[h3,g3];refine Ap1 ?zU;rw[hl2];by_cases q:v=v'
         . subst q;simp
         . have q':¬v'=v:=?SU;simp[q,q']
     . obtain⟨rfl,hs⟩:=hs;by_cases q:?AX=?dL
       . rw[qf9 q]at hs;subst hs;rw[?f ?M];refine ?a38 wpAny_dictEpoch ?_;rw[?f ?W];refine qb7 ⟨rfl,rfl,i+1,rfl,hlt,?V0⟩;rw[qe7,qa0 hlt,hmi]at hp;rcases ql3.mp hp with hp | hp
         . exact hd p hp
         . have:p=?eB:=by simpa using hp
           subst this;exact q
       . rw[qj6 q]at hs;subst hs;rw[?yB];refine qb7 ⟨rfl,?a3 ?zU⟩;rw[List.all_eq_false];exact⟨?eB,by rw[←hmi];exact qe0 hlt,?fR⟩
   . rintro r s' ⟨rfl,rfl,i,hr,hi,hd⟩
     have e1:i=ms.length:=by
      refine qi6 hi ?eI;rw[?a4M ?W5 ?i,List.range'_succ]at hr;cases hr
     subst e1;rw[qd0]at hd;exact⟨rfl,?L ⟨rfl,qe5.mpr fun p hp=>qf9 (hd p hp)⟩⟩
   . simp[Std.Legacy.Range.size,la]
   . obtain⟨rfl,⟨rfl,e2⟩|⟨rfl,e2⟩⟩:=hr
     . rw[e2]at h;exact qb7 h
     . rw[e2]at h;exact qb7 h
 . rw[?m (by simp[la,lb];exact hl)];have e0:(?y1)=false:=?PW
   rw[e0,Bool.false_and]at h;exact qa5 (qw3 (qb7 h))
universe L2
namespace L2
open PySem PySem.Spec PyProof.Rows
section
variable[?eT][?bQ]
theorem cT:?UY (?pE) ?x4=pure none:=am_miss_of_fast ?pS
theorem Zv[?eZ]{a:Addr}{xs:?iG}{k:Nat}[?CI]
 (hx:?m7 a=?e { cls:=?pE,data:=?eF xs k }) (hA:?zG)
 (h:∀h' tk,(∀b o,?oF->?kF b=?J)->Q none ?nS) :
 ?a0D ?a8 (getAttr? ?dJ ?x4):=by
 obtain⟨hp,g,d,tk,os⟩:=s;have hT:∀tk',(⟨hp,g,d,tk',os⟩:Shared).TypeIs ?dJ ?wS:=fun _=>(?a1R hx)
 have f1:=sub_AttributeError;have f3:=F.slot_list_getattribute.lookup;have f4:=F.slot_list_getattribute.bind ?dJ;have f5:=am_list_getattr_none;unfold getAttr? getAttrBy? getAttrBy
 repeat (any_goals (first | assumption | exact hT _ | ((with_reducible show ?a0C (?fV (Value.builtin "list.__getattribute__") _ _) _);refine ?WY F.slot_list_getattribute (hT _) am_entry_list_getattribute (F.args_list_getattribute_2 _ _) (meets_getattribute_miss_list a xs k #[] ?x4 _ cT (?kU)) ⟨hx,hA,fun h' tk' e hx'=>?_⟩) | wp_step))
 obtain⟨t',u',he⟩:=hx'.there;show ?l _ _ (getattributeRaised _ _ _ _ _ _ _) _ _ _;unfold getattributeRaised
 repeat (any_goals (first | assumption | wp_step))
 exact h _ _ hx'.keeps
theorem Lo:plainId ?v2=true:=?kU
theorem Wy:?WL table ?v2=?e Builtin.«dict.update.loop»:=entryFor_of_fast ?pS
variable{KT:Type}[?W7 KT]{knd:KeyKind prog w KT}
def Aw4(d it:Addr)(h0 h:Heap):Prop:=∀b o,b≠d->b≠it->h0.get? b=?J->h.get? b=?J
theorem nG(hh:?zG){d it l:Addr}{items:?iG}{prs:?UQ}(hl:prs.length=items.size)(ndi:d≠it)(nld:l≠d)(nli:l≠it){h0:Heap}(hL:h0.IsList l items)
 (hP:∀(i:Nat) (x:Value),?NL=?fN->∃(p:?G9) (t:Addr) (key:Value),?VL/\x=?lE/\t≠d/\t≠it/\h0.IsTuple t ?vZ/\knd.is p.1 key=true) {R:Result->?i1} :
 ∀(n i:Nat) (s:Shared) (acc:?UQ),prs.length-i=n->i<=prs.length->acc.length+n<=sizeLine->s.heap.DictOf knd d acc->s.heap.IsListIter it l i->Aw4 d it h0 ?U →
   (∀h' tk,?HR knd d (merged acc (?rA i))->Aw4 d it h0 h'->R (.ok (.ret ?aF)) ?nS) →
   codeAny ?a8 A (?i9 ?v2 ⟨[?o d,?o it,?vV i,?aF],[]⟩) R s:=by
 intro n
 induction n with
 | zero =>
   ext XJ
   have hx:?NL=none:=?kR
   ext ZM;refine qa5 (wpAny_pyNext_list_end hh hit hLs hx fun h' he=>?_);show ?a0C (Builtin.Dict.addKeywords d []>>=_) _;refine qa5 ?WQ;have e:?rA i=[]:=?kR
   have k':=k h' s.toks (by rw[e];exact hd.extBut he ndi) fun b o n1 n2 q=>he b o n2 (hb b o n1 n2 q);exact k'
 | succ n ih =>
   ext XJ
   have hlt:i<items.size:=O9m
   obtain⟨p,t,key,hp,ex,ntd,nti,hT,hkey⟩:=hP i ?R2 (?zB);ext ZM;refine qa5 (wpAny_pyNext_list_item hit hLs (x:=?R2) (?zB) fun h1 Bd5 hs1=>?_);rw[ex];have hT1:h1.IsTuple t ?vZ:=let ?LL:=hT;⟨o,(hs1.2 t nti).trans (hb _ _ ntd nti ho),r⟩
   have hd1:?H7 knd d acc:=hd.sameBut hs1 ndi;obtain⟨o,ho,hc,m,hdat⟩:=hT1;refine ?a2B qn4;refine ?a2B wpAny_tryCatch;unfold Builtin.Dict.pairItems;refine qa5 (?V7 (show((?EW:Shared).TypeIs (?lE) "tuple") from⟨o,ho,hc⟩) ?_);rw[?yB];refine qa5 (qm6 ho hdat ?oK);show ?a0C (holding [key,p.2] (dictSet d key p.2)) _;refine qn4 (wpAny_dictSet_pairs (s:=?EW) hkey hd1 (fun h2 hd2 hs2=>?_) O9m);refine ?a3N _
   have e2:?rA i=p::?rA ?i:=by
    rw[List.drop_eq_getElem_cons ?c]
    congr 1
    rw[qa0 ?c]at hp;exact qd7 hp
   have hl2:=stored_length_le acc p.1 p.2;refine ih ?i { s with heap:=h2,toks:=s.toks+1 } (?zI acc p.1 p.2) O9m O9m O9m hd2 ?_ (fun b o' n1 n2 q=>?_) (fun h' tk hd' hb'=>k h' tk (by rw[e2];exact hd') hb')
   . obtain⟨oi,hoi,ri⟩:=Bd5;exact⟨oi,(hs2.2 it (?oE ndi)).trans hoi,ri⟩
   . exact(hs2.2 b n1).trans ((hs1.2 b n2).trans (hb b o' n1 n2 q))
universe e9
theorem vals_pair{x y:V}{us:?sB}(r:Vals [x,y] us):∃a b,us=?qE/\?aS x a/\?aS y b:=by
 cases r with
 | cons h1 r =>
   cases r with
   | cons h2 r =>
     cases r;exact⟨_,_,rfl,h1,h2⟩
theorem fF[?aZ]{H:Hp}{h:Heap}(hok:?G8):∀[?a00],?EG->(?a0P t) →
 ∃prs:?rR,KV kvs prs/\prs.length=ts.length/\∀(i:Nat) t,?r4->∃(p:?IT) (key:Value),?VL/\h.IsTuple t ?vZ/\?wQ p.1 key=true
 | [],[],_,_=>⟨[],?V,rfl,fun i t e=>?zH⟩
 | [],_::_,hl,_=>?Q0
 | _::_,[],hl,_=>?Q0
 | t::ts,kv::kvs,hl,hk=>by
   obtain⟨prs,h1,h2,h3⟩:=fF hok ts kvs (by simpa using hl) fun i t e=>by
    obtain⟨kv',e1,e2⟩:=hk ?i t ?oS;exact⟨kv',?kG,e2⟩
   obtain⟨kv',e1,e2⟩:=hk 0 t rfl;have e1':kv=kv':=?kG
   subst e1';obtain⟨_,its,rv,o,ho,hc,hdn,n,hd⟩:=hok t _ e2;obtain⟨a,b,rfl,ra,rb⟩:=vals_pair rv;refine⟨(kv.1,b)::prs,.cons ⟨rfl,rb⟩ h1,by simp[h2],fun i t' e=>?_⟩;cases i with
   | zero =>
     have:t=t':=?lJ
     subst this;exact⟨(?aJ,b),a,rfl,⟨o,ho,hc,n,hd⟩,?oP ra⟩
   | succ i =>
     obtain⟨p,key,q1,q2,q3⟩:=h3 i t' ?oS;exact⟨p,key,?HB,q2,q3⟩
inductive LJ[?CR]:Prop
 | mk:∀(p:Addr) [?a00],(xs=[?k6])->(H p=?a17 (ts.map ?rP))->(?EG)->((?a0P t))->(∀D,?o4->Q ?h5 (?a20 D (.dK (?kC))))->?S0
def yJ:?qG:=fun xs H Q=>?S0
theorem f8{X:Cx}(hc:X.calm=true):Fu X (?X ?gD) yJ:=by
 intro Ad s σ H xs us Q I r h;obtain⟨l,ts,kvs,rfl,hl,hlen,hk,q⟩:=h;obtain⟨u,rfl,ru⟩:=X9 r;cases ru;have hh:X.A.handled=none:=?KQ;obtain⟨hz,its,n,rv,ho⟩:=?bL l _ hl;rw[qa4]at hz;have hil:its.length=ts.length:=by rw[←rv.length,qa4]
 obtain⟨prs,hkv,hpl,hP⟩:=fF ?bL ts kvs hlen hk
 have at_:∀(i:Nat) (x:Value),its.toArray[i]?=?fN->∃t,?r4/\x=?lE:=fun i x e=>by
  have e':its[i]?=?fN:=?lJ
  have hlt:i<its.length:=(?kV e').1;have hb:?a5B ts (ts[i]'(O9m)):=?w2
  obtain⟨u,hu,ru⟩:=rv.get (i:=i) (x:=?rP (ts[i]'(O9m))) (by rw[qa9,hb];rfl);rw[e']at hu;cases hu;cases ru;exact(?a1R hb)
 refine callType_codes (Q₁:=fun obj s₁=>obj=?dF/\s₁=?W9) PySem.F.kt_called_dict (PySem.F.kt_typeCall_dict_1 _) PySem.F.entry_dict_init (kt_code_dict_new _ ?M4) ?_;rintro obj s₁ ⟨rfl,rfl⟩;have hnew:(?oC).DictOf ?dA ?R []:=?N4 ?U;refine⟨?IA,PySem.F.args_dict_init_2 _ _,?_⟩;unfold Builtin.«dict.__init__»;refine ?iA;unfold Builtin.Dict.selfAndRest;refine qa5 (wpAny_notOrdered_dict ?IA ?_);show ?a0C (pure (?R,[?dK l])) _;refine ?qJ;show ?a0C (Builtin.Dict.updateFrom "dict.__init__" ?R (?oV) [] ?aF) _;unfold Builtin.Dict.updateFrom;have ho1:(?oC).get? l=?e { cls:=?pE,data:=?eF ?o9 n }:=?a1S ho;refine qa5 (?V7 (show((?W9:Shared).TypeIs (?oV) ?wS) from(?a1R ho1)) ?_);rw[?yB];refine qa5 (Zv ho1 hh fun h1 tk hk1=>?_);rw[?m (show(none:?m9).isNone=true from rfl)];refine ?a2B qw3;have hl1:h1.IsList l ?o9:=⟨_,?UT,rfl,n,rfl⟩
 refine qa5 (qt9 hl1 ?_);refine ?a3N _;have lt0:?a15 l:=qb2 ho;have nD:∀b o,?oF->?T0:=fun b o e=>?NY;have up:∀b o,?oF->h1.get? b=?J:=fun b o e=>hk1 _ _ (?a1S e);have nI:∀b o,?oF->b≠h1.objs.size:=fun b o e=>?a41 (up b o e);obtain⟨oD,esD,epD,hoD,rD⟩:=id hnew;have El:?H7 ?dA ?R []:=⟨oD,esD,epD,?X8,rD⟩
 have ndi:s.heap.objs.size≠h1.objs.size:=?a41 (?X8)
 refine nG (knd:=?yZ) (show X.A.in1.handled=none from hh) (prs:=prs) (items:=its.toArray) (l:=l) (d:=s.heap.objs.size) (it:=h1.objs.size) (h0:=h1.push { cls:=?X "list_iterator",data:=?fF #[?oV,?wX] }) (?kR) ndi (nD _ _ ho) (nI _ _ ho)
  ⟨_,?a1S (?UT),rfl,n,rfl⟩ (fun i x e=>?_) prs.length 0 _ [] O9m O9m ?_ (El.push _) ?B0 (fun b o _ _ e=>e) (fun h' tk' hd' hb'=>?_)
 . obtain⟨t,e1,rfl⟩:=at_ i x e;obtain⟨p,key,e2,⟨o,ho',r'⟩,e4⟩:=hP i t e1;exact⟨p,t,key,e2,rfl,nD _ _ ho',nI _ _ ho',⟨o,?a1S (up _ _ ho'),r'⟩,e4⟩
 . have e0:([]:?rR).length=0:=rfl;omega
 . refine⟨rfl,?dF,?a20 ?R (.dK (?kC)),?_,rfl,q _ (?k4 ?g)⟩
   have hzz:?GD:=by
    have h1:=?SA;rw[qm3]at h1;omega
   refine ?nW (a:=s.heap.objs.size) (o:=.dK (?kC)) (t':=tk') (fun b o e=>hb' b o (nD _ _ e) (nI _ _ e) (?a1S (up _ _ e))) ?g (V5 hzz (?a2L I.big) (hkv.merge ?V) ?_);simpa using hd'
theorem Of:∀(more kvs:?c7),((?QY).map (·.1)).Nodup->?uW=?QY
 | [],kvs,_=>by simp[Iz]
 | p::more,kvs,h=>by
   have hnot:(kvs.any fun kv=>?a5 (?aJ=p.1))=false:=by
    rw[qw7];intro kv hkv hd;have e:?aJ=p.1:=by simpa using hd
    rw[qb4,qs0]at h;exact h.2.2 ?aJ (qj4 hkv) p.1 ?W e
   have e:?KR=?PX:=by
    unfold N9;rw[?f (by rw[hnot];decide)]
   show Iz ?oU more=_;rw[e,Of more (?PX) (by simpa using h)];simp
universe L2
namespace L2
open PySem PySem.Spec PyProof.Rows PySem.SeqAt
universe L2
namespace L2
open PySem PySem.Spec PyProof.Rows
section
variable[?cY][?bD]
theorem Bo.freeze[?a0][?jF]:∃o,?a10 (?qC) s:=by
 obtain⟨z,y,vs,r,o,es,ep,ho,c⟩:=id (?G2);refine(?a4L o);have ne:∀b u,?q2->u≠?s9->b≠a:=?ER
 have up:∀b u,?q2->u≠?s9->upd H a (?kI) b=?jQ:=?W3
 refine I.step (g':=s.gens) (t':=s.toks) (d':=s.drawn) (h':=s.heap) (H':=?qC) (ch:=[]) (fun _ q=>nomatch q) (fun b ob _ _ _ q _=>q) (fun b ob _ _ _ q _=>⟨?J4,q⟩) (fun b ob _ q n=>?PE) (fun b ob _ q=>⟨ob,q⟩)
  (fun b xs q=>?A8) (fun b ob u q=>?A8) (fun b ps q=>⟨#[],by rw[?A8];simp⟩) (fun m q=>q) (?G6) ?q7
 by_cases hb:b=a
 . subst hb;rw[Ab]at q;cases q;exact⟨ho,(?Q1).stay (fun _ _ _ q=>q) (fun c q=>?pK) ?AW⟩
 . rw[Ai hb]at q;ext XP
theorem Bo.thaw{o:Obj}[?a0][?a05](hb:?EM):?a10 (upd H a ?bW) s:=by
 have ne:∀b u,?q2->u≠?kI->b≠a:=?ER
 have up:∀b u,?q2->u≠?kI->?GP=?jQ:=?W3
 have no:∀b,H b=none->?GP=none:=fun b n=>?PE
 refine⟨I.ok,I.os,?q7,⟨I.base.keep,I.base.slot,fun b ob q n x=>no b (I.base.free b ob q n x),I.base.there,fun b xs q=>up b _ (I.base.tups b xs q) ?qY,fun b ob u q=>?_,fun b ps q=>?_⟩,I.loc,I.cell,no _ I.free,fun x c q=>no _ (I.freeC x c q),?V0,?G6,I.len⟩
 . have hne:b≠a:=fun z=>hb ob u (z▸q);rw[Ai hne];exact ?IQ b ob u q
 . obtain⟨m,q'⟩:=I.base.tbls b ps q;exact⟨m,up b _ q' ?qY⟩
 . obtain⟨p1,p2,p3⟩:=I.pin p hp;exact⟨p1,no _ p2,p3⟩
 . by_cases hba:b=a
   . subst hba;rw[Ab]at q;cases q;obtain⟨_,q'⟩:=?Q1;exact q'.stay (fun _ _ _ q=>q) (fun c q=>?pK) ?AW
   . rw[Ai hba]at q;ext XP
theorem Bo.notfrz[?a0][?jF]:?EM:=fun ob u q=>by
 have:=?IQ a ob u q;rw[e]at this;cases this
theorem Bo.nodupK[?a0][?CV]:(?d6 (·.1)).Nodup:=by
 obtain⟨z,hd,vs,rel,o,es,ep,_,_,_,_,_,hn⟩:=?hN;rw[rel.keys];exact hn
universe e9
def tFrz(t:TE):TE:=fun σ H Q=>t σ H Q\/∃(a:Addr) (kvs:?c7),?qT/\((?d6 (·.1)).Nodup->∀o:Obj,t σ (?qC) fun v H'=>?kM/\Q v ?lY)
def A58(t:TS):TS:=fun D σ H=>t D σ H\/∃(a:Addr) (kvs:?c7),?qT/\((?d6 (·.1)).Nodup->∀o:Obj,t ⟨?a1M D.nx,fun v H'=>?kM/\D.rt v ?lY,
 ?a1M D.bk,?a1M D.ct⟩ σ (?qC))
theorem pK{X:Cx}{e:Expr}{t:TE}(h:PE X e t):PE X e (tFrz t):=by
 intro Ad s σ H Q I hw;rcases hw with hw|⟨a,kvs,ea,hw⟩
 . exact h Ad s σ H Q I hw
 . obtain⟨o,I'⟩:=I.freeze ea;have hb:=I.notfrz ea;refine Dq (h Ad s σ _ _ I' (hw (?T7 (?L ea)) o)) fun u s' ⟨v,H',I2,r,e2,q⟩=>⟨v,_,?xS,r,q⟩
theorem Ob{X:Cx}{st:Stmt}{t:TS}(h:PS X st t):PS X st (A58 t):=by
 intro Ad s σ H D I hw;rcases hw with hw|⟨a,kvs,ea,hw⟩
 . exact h Ad s σ H D I hw
 . obtain⟨o,I'⟩:=I.freeze ea;have hb:=I.notfrz ea;refine Dq (h Ad s σ _ _ I' (hw (I.nodupK (.inl ea)) o)) fun f s' hq=>?_;cases f with
   | next=>ext BV
   | brk=>ext BV
   | cont=>ext BV
   | ret u=>obtain⟨v,σ',H',I2,r,e2,q⟩:=hq;exact⟨v,σ',_,?xS,r,q⟩
theorem V3[?cY][?bD]{o:Obj}[?a0][?a05] :
 ?m7 a=?J/\?fC/\?lS/\∃vs es ep,?hH/\?wN/\es.size=kvs.length/\o.ExactDict/\s.heap.DictAt ?dA a vs ep:=by
 obtain⟨ho,z,y,vs,r,o',es,ep,ho',ex,hd,hk,hp,hn⟩:=?G2;rw[ho]at ho';cases ho';refine⟨ho,y,z,vs,es,ep,r,hd,?_,ex,⟨o,es,ho,ex,hd,hk,hp,hn⟩⟩;rw[r.length,←hp.length];simp
theorem KV.getV:∀[?bD][?tI]{i:Nat}{k:Key}{v:V},?hH->?hB->∃u,?a5B vs (k,u)/\?aS v u
 | _,_,i,k,v,?V,e=>?zH
 | _,_,0,k,v,?b6 (b:=q) r t,e=>by
   simp only[qs9,Option.some.injEq]at e;subst e;obtain⟨k',u⟩:=q;have e1:k=k':=r.1;subst e1;exact⟨u,?bK,r.2⟩
 | _,_,i+1,k,v,?b6 r t,e=>by
   obtain⟨u,e1,e2⟩:=KV.getV (i:=i) t ?oS;exact⟨u,?kG,e2⟩
theorem qN[?aZ]{k:Key}{u:Value}(h:?DH):?wM:=by
 rcases Df h with⟨i,t,rfl,rfl⟩|⟨x,t,rfl,rfl⟩
 . exact ?JO
 . exact ?JO
def Itm(d:Addr)(o:Obj):It :=
 ⟨?GZ,
  fun i H x H'=>∃p k v,?cX/\x=?k6/\H'=?x3/\?RW,
  ?K4⟩
theorem Xe[?eT][?bQ][?eZ]{it d:Addr}{i n ep:Nat}{ok ov:Value}[?cC](hit:?R3 ?U it d i n ep ok ov)(h:Q ?m6 s):?a0D ?a8 (pyIter ?m6):=by
 have hT:?A0 ?m6 ?OK:=(?a1R hit)
 refine wpAny_pyIter_slot hT qv3 (ql0 qv3 hT (entryFor_alias (id':="dict_keyiterator.__iter__") ?pS rfl (?kU) ?pS:?WL table "dict_itemiterator.__iter__"=?e Builtin.«dict_keyiterator.__iter__») ?_ (PySem.F.args_dict_itemiterator_iter_1 _));show ?a0C (ret ?m6) s;exact qb7 ⟨_,rfl,?OK,_,hT,PySem.F.slot_dict_itemiterator_next.lookup,h⟩
theorem HF[?aZ][?b0]{tes:?eP}[?D5][?YL] :
 Wf P w K (?a2J tes) (?f9) ?dW it (fun i h=>∃ok ov,?R3 h it d i es.size ep ok ov) where
 mem:=?bK
 obj:=fun i h st b hb=>by
  obtain⟨ok,ov,h1⟩:=st;ext CF
  subst z;exact⟨_,h1,?F9⟩
 keep:=fun i h h' st k=>by
  obtain⟨ok,ov,h1⟩:=st;exact⟨ok,ov,k it ?W _ h1⟩
 item:=by
  ext eR;ext CM;obtain⟨kvs,k,v,hz,hx⟩:=hg;ext t0;obtain⟨u,hu,ru⟩:=rel.getV hx;ext t3
  have fi:=?EX;have lti:?a15 it:=qb2 hit;ext YT;rw[hn]at hit;refine wpAny_pyNext_items_item hit hm hu fun key h' hkey hout htup hsz' hk=>?_;refine⟨_,rfl,wpAny_letOwnedTupleGo_items hout fun h3 hen Pa=>?_⟩
  replace Pa:?nV it h' h3:=Pa
  have kk:∀b ob,b ∉ ?dW->?HQ->?r5 b=?sI:=fun b ob n z=>by
   have n1:b≠it:=by simpa using n
   exact(?eA b n1).trans (hk b ob n1 z)
  have UY:?a2Z key u:=(?eA _ (qk6 lti)).trans htup;have z9:∀c ob,H c=?sI->c ∉ ?dW:=fun c ob e hm=>?MG
  have T8:∀b ob,H b=?sI->?T0:=fun b ob z=>Ao z ?q5;refine⟨?dF,?PU,?_,rfl,⟨?R,k,v,?q5,rfl,rfl,?U5⟩,⟨_,_,by rw[hn];exact hen⟩,?kE⟩
  . refine Bo.step (s:=s) (h':=h3) (t':=s.toks) (H':=?PU) I (g':=s.gens) (d':=s.drawn) (ch:=?dW) (?kE) (fun b ob _ _ hb z _=>?xG) (fun b ob _ _ hb z _=>⟨?J4,?xG⟩) (fun b ob hb z n=>?_) (fun b ob hb z=>⟨ob,?xG⟩)
     (fun b ys z=>?IH) (fun b ob w' z=>?IH) (fun b ps z=>⟨#[],by rw[Ai (T8 b _ z),z];simp⟩) (fun m hm=>?_) (fun b w' z=>?_) ?q7
    . have f:=hf b hb;ext Z3
    . rw[Ai (?a41 z)];exact n
    . obtain⟨ob,es',SS,hob,r⟩:=hm;exact⟨ob,es',SS,?a3V ob hob,r⟩
    . by_cases hb:?a3T b
      . subst hb;rw[Ab]at z;cases z;exact⟨(?a3O 2),[key,u],?b6 (qN hkey) (?b6 ru ?V),?Q6⟩
      . rw[Ai hb]at z;refine(?bL b w' z).stay (fun c y hc' q=>?_) (fun c q=>?V8) fun c ys q=>?V8
        rcases hc' with rfl | hc'
        . exact ?a39 z
        . exact ?HG
  . ext CF
    subst z;rw[Ai (qd1 lti)];exact(hf b hb).1
 done:=by
  ext eR;ext CM;obtain⟨kvs,hz,hx⟩:=hg;ext t0;ext t3
  have hl2:=rel.length;rw[hn]at hit;exact wpAny_pyNext_items_end ?k3 hit hm (?kR) ?KV
 self:=fun _ _ _ _ _ st h=>by
  ext CM;exact Xe hit h
inductive lM[?tR](x:V)(H1:Hp):Prop
 | mk:?a23 ?f9 ?UN
def zJ(td:TE):TI:=fun σ H R=>?a36 ?UN
theorem P4{X:Cx}{tes:?eP}{x1:Nat}{tpos apos cpos:Pos}{e:Expr}{td:TE}(he:?E1)
 (hbase:?uH e "items" ?v (?jZ)=?jZ:=by rfl) (hline:?MT:=by rfl):PI X (?a2J tes) (?bN (?cB e "items" ?cA) [] [] ?gJ) (zJ td):=by
 intro Ad s σ H R I h;refine wpAny_Call_method0_late hbase hline (?H3);ext XM;refine⟨?gD,"dict.items",qs5,?VU,PySem.F.type_dict_items,⟨o,ho,exd.1⟩,fun b e=>by cases e;exact⟨o,ho,exd.2.1⟩,qp7 rfl (PySem.evalArgs_none ?_)⟩;refine ?iJ ?VU hm.dictOf.typeIs PySem.F.entry_dict_items (PySem.F.args_dict_items_1 _) (meets_dict_items ?dA d hsys) (?a4L ⟨vs,hm.dictOf⟩);have I2:?a10 H1 ?QG:=?JX;have hm2:=hm.push ?AS;refine wpAny_pyIter_items (s:=?QG) (v:=s1.heap.objs.size) (d:=d) ?B0 hm2 ?_;have hsz2:?SP=?L9:=qi5 ..;refine⟨_,[_],_,?f9,H1,rfl,?a57 I2.kept ?QL,HF d _ o hd,⟨?aF,?aF,?_⟩,?kE,q⟩
 . rw[hsz,rel.length];exact ?gI
 . have z:b=?SP:=?j9
   subst z;ext ZG
def Itk(d:Addr)(o:Obj):It :=
 ⟨?GZ,
  fun i H x H'=>H'=H/\∃k v,x=?dM/\?RW,
  ?K4⟩
theorem lR[?aZ][?b0]{tg:Expr}[?YL] :
 Wf P w K tg (?h4) ?dW it (fun i h=>h.IsKeyIter it d i es.size ep) where
 mem:=?bK
 obj:=fun i h st b hb=>by
  obtain⟨oi,h1,c1,d1⟩:=st;ext CF
  subst z;exact⟨oi,h1,?FA⟩
 keep:=fun i h h' st k=>st.at fun ob z=>k it ?W ob z
 item:=by
  ext eR;obtain⟨kvs,k,v,hz,hx⟩:=hg;ext t0;obtain⟨u,hu,ru⟩:=rel.getV hx;ext t3
  rw[hn]at st;refine wpAny_pyNext_dict_item st hm hu fun key h' hkey mU hs'=>?_;refine ?EU;obtain⟨oi,h1,c1,d1⟩:=id mU;refine GA h1 c1 d1 ?M ⟨?dM,H,?_,qN hkey,⟨rfl,k,v,rfl,?U5⟩,by rw[hn];exact mU,?G5⟩;exact ?a1O ?dW (fun b ob hb z=>(hs'.2 b ?pW).trans z)
 done:=by
  ext eR;obtain⟨kvs,hz,hx⟩:=hg;ext t0;ext t3
  have hl2:=rel.length;rw[hn]at st;exact wpAny_pyNext_dict_end ?k3 st hm (?kR) ?KV
 self:=fun _ _ _ _ _ st h=>wpAny_pyIter_keyiter st h
inductive SK[?tR](x:V)(H1:Hp):Prop
 | mk:?a23 ?h4 ?Q4
def Ap6(td:TE):TI:=fun σ H R=>?a36 ?Q4
theorem Q0{X:Cx}{tg e:Expr}{td:TE}(he:?E1):PI X tg e (Ap6 td):=by
 intro Ad s σ H R I h;refine ?H3;ext XM;refine wpAny_pyIter_dict hsys hm ?_;refine⟨_,[_],_,?h4,H1,rfl,?JX,lR d _ o hd,?_,?kE,q⟩
 . rw[hsz,rel.length];exact ?B0
 . have z:b=s1.heap.objs.size:=?j9
   subst z;exact I1.fpOk ?g (?WJ ?g)
section
variable{g:TG}{tc:TT}[?t7]
theorem c8{d:Addr}{o:Obj}[?bD][?ZN](hl:∀i zs τ H,?rY->?eJ->?l0)
 (hs:∀i k v zs τ H p,?hB->?eJ->?cX->g ?e4 τ (?x3) ?OQ)
 (hd:?a4B ?BC):?a24 (?f9) tc:=by
 refine⟨fun i m zs τ H=>m=kvs.length-i/\?rY/\?eJ,?QR,?_⟩;rintro i m zs τ H ⟨rfl,hi,pp⟩;have q:=?V6;by_cases hlt:?VS
 . refine ?a3 (?a4A ?RC ?OC);obtain⟨p,k,v,hp,rfl,rfl,y⟩:=y;exact hs i k v zs τ _ p (y kvs q) pp hp
 . have e:?uD:=O9m
   subst e;exact ?L ⟨?LJ,?D9⟩
theorem V4{d:Addr}{o:Obj}[?bD][?XQ]
 (hs:∀i k v σ H p,?hB->?hC->?cX->g ?e4 σ (?x3) ?AJ) [?ZS] :
 ∃W:?yJ,(∃m,W 0 m σ H)/\∀i m σ H,?AR →
   (?a47 ?f9)\/(?a4X ?f9 ?f9):=by
 ext XI
 . ext XN;obtain⟨p,k,v,hp,rfl,rfl,y⟩:=y;exact hs i k v σ _ p (y kvs q) pp hp
 . have e:?uD:=O9m
   ext Z0
theorem Nj{d:Addr}{o:Obj}[?bD][?XQ]
 (hs:∀i k v σ H,?hB->?hC->g (?dM) σ H ?AJ) [?ZS] :
 ∃W:?yJ,(∃m,W 0 m σ H)/\∀i m σ H,?AR →
   (?a47 ?h4)\/(?a4X ?h4 ?h4):=by
 ext XI
 . ext XN;obtain⟨rfl,k,v,rfl,y⟩:=y;exact hs i k v σ _ (y kvs q) pp
 . have e:?uD:=O9m
   ext Z0
universe e9
universe L2
namespace L2
open PySem PySem.Spec PyProof.Rows PySem.SeqAt
theorem qP[?aZ][?n4][?tI](hp:Pairs ?gC es vs):∀[?cD],(∀e∈es,∃k,?wQ k e.key=true/\e.hash=(?zL).hash k)->KV ?kB vs->?kJ:=by
 induction hp with
 | nil =>
   intro ms _ r;cases ms with
   | nil=>exact ?V
   | cons p ms=>cases r
 | @cons e kv es kvs h1 h2 _ ih =>
   intro ms hk r;cases ms with
   | nil=>cases r
   | cons p ms =>
     cases r with
     | cons r0 r1 =>
       obtain⟨k,v⟩:=kv;obtain⟨e1,t',e2⟩:=r0;have e1':?s3=k:=e1;subst e1';obtain⟨t,ek⟩:=(show ∃t,e.key=?O0 p.1 t from qN h1)
       obtain⟨k',hk1,hk2⟩:=hk e (qc9 ..)
       have ek':k'=?s3:=by
        rw[ek]at hk1;rcases Df hk1 with⟨i,t2,z1,z2⟩|⟨x,t2,z1,z2⟩
        . cases z2;exact z1
        . cases z2
       subst ek';obtain⟨p1,p2⟩:=p;exact ?b6 ek hk2 (h2.trans e2) (ih (fun e' he=>hk e' (qb9 _ he)) r1)
theorem Jo[?cD]:((cK ms).map (·.1)).Nodup↔(?iK (·.1)).Nodup:=by
 unfold cK List.Nodup;rw[qi9,qr9,qr9];constructor
 . intro h;exact h.imp fun {a b} n z=>n (by simp[z])
 . intro h;exact h.imp fun {a b} n z=>n (by simpa using z)
section
variable[?cY][?cD]
theorem Bo.nodupC[?a0](e:?TW):(?iK (·.1)).Nodup:=Jo.mp (?T7 e)
theorem Bo.idict[?a0](e:?TW):?uN:=by
 obtain⟨z,hd,vs,rel,o,es,ep,ho,ex,hda,hk,hp,hn⟩:=?hN;exact⟨⟨o,es,ep,ho,ex,hda,qP hp (fun e he=>hk e (by simpa using he)) rel⟩,hd,I.nodupC e⟩
universe e9
def sameC(ms ns:?e6):Bool:=?IF
section
variable{X:Cx}{n:Nat}[?b0]
inductive GV[?CR]:Prop
 | mk:∀a kvs,(xs=[?aC,.ty ?gD])->(?l6)->(Q (?sX) H)->?JF
def TU:?qG:=fun xs H Q=>?JF
theorem W3:Fu X (?i9 "isinstance") TU:=by
 ext YQ;obtain⟨u,v,rfl,rx,rt⟩:=X8 r;cases rt;cases rx;obtain⟨z,hd,vs,rel,o,es,ep,ho,ex,_⟩:=?hN;exact PySem.IsiPair.dict_dict ho ex.1 ⟨?sX,H,I,rfl,q⟩
universe e9
universe L2
namespace L2
open PySem PySem.Spec PyProof.Rows
inductive LK[?CR]:Prop
 | mk:∀a kvs,(xs=?mP)->(?l6)->(?a5E ?bW)->?IP
def YJ:?qG:=fun xs H Q=>?IP
theorem Hg{X:Cx}:Fu X (?X ?gD) YJ:=by
 ext YQ;obtain⟨u,rfl,rx⟩:=X9 r;cases rx;exact RE I e fun p s' hp I'=>⟨?k6,_,I',rfl,q p hp⟩
theorem u1{n c:Nat}(h:n+8<c):n+1<c:=O9m
def Ay[?bC](k:Int):Int:=(?fY).getD 0
def putI[?bC](k v:Int):?e6:=if (ms.any ?gS)=true then ?a2R ?iK else ms++[?eB]
def Il[?bC](k:Int):?e6:=ms.filter fun p=>?a5 (p.1≠k)
theorem Aa8[?bC](k v:Int):N9 ?kB (?iS) (?aU v)=cK (putI ms k v):=by
 unfold N9 putI cK
 have e:((?iK fun p=>?K3).any fun kv=>?a5 (?aJ=?iS))=(ms.any ?gS):=by
  rw[List.any_map]
  congr 1
  funext p
  simp
 rw[e];split
 . rw[qi9,qi9]
   congr 1
   funext p
   simp only[Function.comp];by_cases q:?b8
   . simp[q]
   . have q':¬?T5=?iS:=fun z=>q (by simpa using z);simp[q]
 . simp
theorem VJ[?bC](k:Int):Wz ?kB (?iS)=cK ?PQ:=by
 unfold Wz Il cK;rw[List.filter_map]
 congr 1
 congr 1
 funext p
 simp
theorem jK[?bC](k:Int):Pc ?kB (?iS)=?a32 ?fY:=by
 unfold lookI cK Pc;rw[List.find?_map,Option.map_map,Option.map_map]
 have e:((fun p:?sD=>?a5 (p.1=?iS)) ∘ fun p:?pG=>?K3)=fun p:?pG=>?JH:=by
  funext p
  simp
 rw[e];rfl
theorem Q7[?bC](k:Int):(?a32 ?fY).getD (?aU 0)=?aU (Ay ms k):=by
 unfold Ay;cases ?fY<;>rfl
theorem Dm(p:?pG)[?bC](k:Int):?b4 (p::ms) k=if ?b8 then ?h6 else ?fY:=by
 unfold lookI;by_cases q:?b8
 . rw[List.find?_cons_of_pos (?fR),?m q];rfl
 . rw[List.find?_cons_of_neg (?fR),?f q]
theorem bC[?bC](k v j:Int):?b4 (putI ms k v) j=if j=k then ?dL else ?I7:=by
 have hs:∀[?CS],?b4 (?a2R ?fX) j=if j=k then(?w3).map (fun _=>v) else ?w3:=by
  intro ns
  induction ns with
  | nil=>simp[lookI]
  | cons p ns ih =>
    rw[qc5,Dm,Dm,ih];by_cases e1:?b8
    . by_cases e2:j=k
      . simp[e1,e2]
      . have e3:¬k=j:=?MK;simp[e1,e2,e3]
    . by_cases e2:j=k
      . simp[e1,e2]
      . simp[e1,e2]
 have hn:∀[?CS],(ns.any ?gS)=(?AX).isSome:=by
  intro ns
  induction ns with
  | nil=>rfl
  | cons p ns ih =>
    rw[ql8,Dm,ih];by_cases e1:?b8<;>simp[e1]
 have ha:∀[?CS],?b4 (ns++[?eB]) j=(?w3).or (if k=j then ?dL else none):=by
  intro ns
  induction ns with
  | nil=>simp[Dm,lookI]
  | cons p ns ih =>
    rw[List.cons_append,Dm,Dm,ih];by_cases e1:p.1=j<;>simp[e1]
 unfold putI;rw[hn];cases q:lookI ms k with
 | some z =>
   simp only[Option.isSome_some,if_true];rw[hs];ext bE
   . subst e;simp[q]
   . simp[e]
 | none =>
   simp only[Option.isSome_none,qr2,if_false];rw[ha];ext bE
   . subst e;simp[q]
   . have e':¬k=j:=?hL;simp[e,e']
theorem iP[?bC](k j:Int):?b4 ?PQ j=if j=k then none else ?I7:=by
 unfold Il
 induction ms with
 | nil=>simp[lookI]
 | cons p ms ih =>
   rw[qm0,Dm];by_cases e1:?b8
   . rw[?f (?kG),ih];by_cases e2:j=k
     . simp[e2]
     . have e3:¬p.1=j:=fun z=>e2 (by rw[←z,e1]);simp[e2,e3]
   . rw[?m (?kG),Dm,ih];by_cases e2:j=k
     . subst e2;simp[e1]
     . simp[e2]
section
variable[?aZ][?b0]{mg:?kO}{base:Heap}
universe e9
section
variable{X:Cx}{x:Str}{ps:?qR}{j k:Nat}{sp:Sp}{p pos:Pos}{e:Expr}[?nB]{t:TA}
universe e9
def upN(n:Nat):?g4:=?IE fun ?r2=>(i:Int)
theorem JV(n:Nat):(upN n).length=n:=by simp[upN]
def Itd(hi:Int)(n:Nat):It:=⟨fun i _=>i<n,fun i H x H'=>H'=H/\x=?x9,fun i _=>n<=i⟩
theorem P1(a b:Int):?KI a b ?C=if b<a then a-b else 0:=by
 unfold Builtin.Range.rangeSize;rw[?f ?M];split
 . show(a-b-1) / 1+1=a-b;rw[Int.ediv_one];omega
 . rfl
theorem HQ{a b:Int}(ha:-(?r8)<=a)(ha':a<?r8)(hb:-(?r8)<=b)(hb':b<?r8):Builtin.Range.small a b ?C=true:=by
 unfold Builtin.Range.small;rw[P1];simp only[Builtin.Range.rangeFitsLong,qc4,qq6,qm7,qw4];split<;>simp<;>omega
theorem lT[?aZ][?b0]{tg:Expr}(it:Addr)(hi:Int)(n:Nat):Wf P w K tg (?pF) ?dW it (fun i h=>?VG h it (hi+?r2*?C) (?kL-?r2) ?C) where
 mem:=?bK
 obj:=fun i h st b hb=>by
  have e:b=it:=?j9
  subst e
  exact⟨_,st,fun v z=>by
   have z':Data.fields _=Data.cell v:=z;cases z'⟩
 keep:=fun i h h' st k=>k it ?W _ st
 item:=by
  ext eR;ext Z8;have W:=Walks.range (prog:=X.prog) (w:=X.w) ?k3 it hi ?C n;refine W.item i s _ _ hg st fun v h' tk hv st' kk=>?_;obtain⟨t,rfl⟩:=hv;have I1:?a10 H ?nS:=?DB (fun b o hb e=>kk b o ?pW e) f0 f1 f3 f4 f5;refine⟨_,rfl,GA (s:=?nS) (n:="range_iterator") st' rfl rfl ?M ⟨?x9,H,I1,(?a4L t),?M4,st',?G5⟩⟩;rw[show hi+(i:Int)*?C=hi-i by omega]
 done:=by
  ext eR;ext Z8;exact wpAny_pyNext_range_end ?k3 st (by have:n<=i:=hg;omega) fun h' eb=>⟨rfl,?DB (t':=s.toks) (fun b o hb e=>eb b o hb e) f0 f1 f3 f4 f5⟩
 self:=fun _ _ _ _ _ st h=>wpAny_pyIter_rangeiter st h
inductive SM[?tR](vs:?bM)(H1:Hp):Prop
 | mk:∀(n:Nat),(vs=[?p ?gE,?p ?C,?p ?C])->(n<=1000000)->(R (Itd ?gE n) H1)->?TL
def Ap8(ta:TA):TI:=?a3K ?TL
theorem UB{X:Cx}{tg:Expr}{a b c:Expr}{ta:TA}{p pos:Pos}(hg:Gl X ?l2)(hm:?j5 ?l2=none)(ha:PA X ?uM ta)(hs:?e7 ?uM ?v=[?JV,?rE,?EJ]:=by rfl)(hs2:?e7 [b,c] ?v=[?rE,?EJ]:=by rfl) :
 PI X tg (?a3H ?l2 ?uM) (Ap8 ta):=by
 intro Ad s σ H R I h;refine Call_ (Mg I hg hm boot_range (qg8 (Dq (ha pos Ad s σ H _ I h) fun us s1 ⟨vs,H1,I1,r1,q1⟩=>?_) (by rw[hs,hs2]) (by rw[hs2];rfl)));obtain⟨n,e,hn,q⟩:=q1;subst e;cases r1 with
 | cons r rr =>
   cases rr with
   | cons r' rr =>
     cases rr with
     | cons r'' rr =>
     cases rr;obtain⟨t,rfl⟩:=r;obtain⟨t',rfl⟩:=r';obtain⟨t'',rfl⟩:=r'';refine call_range_3 ?M ?_ (Or.inl (PyProof.noPylong_small O9m));refine wpAny_pyIter_range (IsRange.new ..) (HQ O9m O9m O9m O9m) ?_;have I2:Bo X Ad σ H1 { s1 with heap:=?a0Z t,toks:=s1.toks }:=?wE ?N1
     refine⟨?RY,[_],_,_,H1,rfl,
      ?a57 I2.kept ?N1,lT _ ?gE n,?_,?kE,q⟩
     . have e1:?SM=?kL-1:=?bK
       have e2:?kL-?B3=?KI ?gE ?C ?C:=by rw[P1];ext a9
       show ?VG _ _ (?SM) (?kL-?B3) ?C;rw[e1,e2];exact ?gI
     . have e:b=?RY:=?j9
       subst e;ext ZG
theorem qX{hi:Int}{n:Nat}{g:TG}{tb:TS}{D:Ends}{σ:St}{H:Hp}(Pv:?u0)(h0:?W2)
 (hs:∀i σ H,i<n->?hC->g (?x9) σ H ?AJ) (hd:∀σ H,Pv n σ H->?jR) :
 ∃W:?yJ,(∃m,W 0 m σ H)/\∀i m σ H,?AR →
   (?a47 ?pF)\/(?a4X ?pF ?pF):=by
 refine⟨fun i m σ H=>m=n-i/\?gK/\?hC,?NR,?_⟩;rintro i m σ H ⟨hm,hi',hp⟩;by_cases hlt:i<n
 . refine ?a3 ⟨hlt,?hX,fun σ' H' h=>⟨n-?i,O9m,rfl,O9m,h⟩,?_⟩;rintro x H' ⟨rfl,rfl⟩;exact hs i σ _ hlt hp
 . refine .inl ⟨by show n<=i;omega,hd σ H (by have:i=n:=O9m
                                              subst this;exact hp)⟩
universe L2
namespace Lat
open Hb
noncomputable abbrev Mat:=?dD
theorem sumN_all0[?B]{n:Nat}(h:∀k,k<n->f k=0):?bY=0:=by rw[Ak h,Qw]
theorem sumN_one[?B]:∀{n j:Nat},j<n->(∀k,k<n->k≠j->f k=0)->?bY=f j
 | n+1,j,hj,h=>by
   show ?iL=f j;by_cases e:j=n
   . subst e;rw[?S fun k hk=>h k ?c ?c];omega
   . rw[?a2 (n:=n) (j:=j) ?c ?E7,h n ?c (?hL)];omega
def In(w n:Nat)(R:Mat)(v:?j):Prop:=∃x:?j,∀c,c<w->v c=?a0E ?hZ n
theorem In.row{w n:Nat}{R:Mat}{j:Nat}(hj:j<n):?a3F R ?j6:=⟨fun k=>if k=j then 1 else 0,fun c _=>by
 rw[Dj (fun k=>?hZ) j n,?w8]⟩
theorem In.zero(w n:Nat)(R:Mat):?a3F R (?cM):=⟨?cM,fun c _=>by rw[sumN_all0];intro k _;simp⟩
theorem In.mix[?ZQ](hv:?yS)(a b:Int):In w n R ?rM:=by
 obtain⟨x,hx⟩:=hu;obtain⟨y,hy⟩:=hv;refine⟨fun k=>a*x k+b*y k,?bJ⟩;show ?v1=_;rw[?e9,hy c hc,←Bg,←Bg,←C4];refine ?BO;rw[qt3,qf2,qf2]
theorem In.congr[?ZQ](h:?QO):?yS:=by
 obtain⟨x,hx⟩:=hu;exact⟨x,fun c hc=>by rw[←?r0];exact ?e9⟩
structure Di(w r:Nat)(R:Mat)[?H]:Prop where
 lt:?z2
 inc:?a2T r
 zero:∀j c,j<r->?z6
 pos:∀j,j<r->?sT
 red:∀k j,k<j->j<r->?xE
theorem Di.mono[?n7][?h][?n9]:∀j k,j<=k->k<r->t j<=t k:=fun j k h1 h2=>by
 rcases qh1 j k with z | z
 . exact qe2 (?cJ j k z h2)
 . rw[?a0O j k];ext dS
theorem Di.ge[?n7][?h][?n9]:∀j,j<r->j<=t j
 | 0,_=>?aG
 | j+1,hj=>by
   have:=h.ge j O9m;have:=?cJ j ?O O9m hj;omega
theorem Di.lead[?n7][?h][?n9]{v x:?j}(hx:∀c,c<w->v c=?IS) :
 ∀j,j<=r->(?O4)->(∀k,k<j->x k=0)/\(j<r->?gL=x j*?aB):=by
 intro j
 induction j with
 | zero =>
   intro _ _;refine⟨?w5,?FV⟩;rw[hx _ (h.lt 0 hr),?K8];rw[?aT k _ hk (?cJ 0 k ?c hk)];simp
 | succ j ih =>
   intro hj hv;obtain⟨h1,h2⟩:=ih O9m (?a4N hv O9m)
   have hxj:x j=0:=by
    have e:=h2 O9m;rw[hv j ?c]at e;rcases ?oN ?pM with z | z
    . exact z
    . have:=?l5;omega
   have hall:∀k,k<j+1->x k=0:=fun k hk=>by
    by_cases e:k=j
    . rw[e];exact hxj
    . exact h1 k O9m
   refine⟨hall,?FV⟩;rw[hx _ (h.lt _ hr),?K8];by_cases e:k<j+1
   . rw[hall k e];simp
   . rw[?aT k _ hk (?cJ ?O k ?c hk)];simp
theorem Di.only[?n7][?h][?n9]{v:?j}(hv:?L6){j:Nat}(hj:j<r)(h0:?O4)(h1:?gL=?aB)(h2:∀k,j<k->k<r->v ?a6=0):∀c,c<w->v c=?e8:=by
 obtain⟨x,hx⟩:=hv;obtain⟨a1,a2⟩:=h.lead hx j O9m h0
 have xj:x j=1:=by
  have e:=a2 hj;rw[h1]at e;have p:=?pI;have:(x j-1)*?aB=0:=by rw[Int.sub_mul];omega
  rcases ?oN ?F with z | z<;>omega
 have rest:∀m,m<=r->∀k,j<k->?OE:=by
  intro m
  induction m with
  | zero=>intro _ k _ hk;omega
  | succ m ih =>
    intro hm k hjk hk;by_cases e:k<m
    . exact ih O9m k hjk e
    have ek:k=m:=O9m
    subst ek;have hv2:=h2 k hjk O9m
    have e2:v ?a6=R j ?a6+?kZ:=by
     rw[hx _ (h.lt k ?c)]
     have:Al (fun i=>x i*?wG) r=Al (fun i=>((?qB)*?wG)+((if i=k then 1 else 0)*(?kZ))) r:=by
      ext tJ;by_cases e1:i=j
      . subst e1;rw[xj,?r,?n];simp
      . rw[?aX];by_cases e3:i=k
        . subst e3;rw[?r];simp
        . rw[?y4];by_cases e4:i<j
          . rw[a1 i e4];simp
          . by_cases e5:i<k
            . rw[ih ?c i ?c e5];simp
            . rw[?aT i _ hi (?cJ k i ?c hi)];simp
     rw[this,C4,Dj (fun i=>?wG) j r,?w8,Dj (fun _=>?kZ) k r,?Y]
    rw[hv2]at e2;obtain⟨r0,r1⟩:=?hS j k hjk O9m;have p:=?Z k O9m;rcases ?J6 (x k) 0 with z | z | z
    . have:?kZ<=-1*?gG:=?pZ;omega
    . exact z
    . have:1*?gG<=?kZ:=?pZ;omega
 intro c hc;rw[?e9,?a2 hj ?xO,xj,qd5];by_cases e:k<j
 . rw[a1 k e];simp
 . rw[rest r ?g k ?c hk];simp
structure Ew[?b1](T T':Mat):Prop where
 fwd:∀i,i<n->?a3F T (T' i)
 bwd:∀i,i<n->?a3F T' (T i)
 st:∃r t,?b3/\?m5/\?mD
theorem In.sub{w n r:Nat}{R:Mat}{v:?j}(h:?yS)(hr:?b3)(hz:?GM):?L6:=by
 obtain⟨x,hx⟩:=h;refine⟨x,?bJ⟩;rw[?e9]
 have:∀m,r<=m->m<=n->?a0E ?hZ m=?IS:=by
  intro m
  induction m with
  | zero=>intro h1 _;rw[?a0O r 0]
  | succ m ih =>
    intro h1 h2;by_cases e:r=m+1
    . rw[e]
    . show Al _ m+x m*R m c=_;rw[?Q5,hz m c ?c ?c hc];simp
 exact ?F n hr ?g
def Nr(n w k:Nat)(T:Mat):Prop:=k<=n/\k<=w/\(∀j,j<k->0<?lQ)/\(∀j c,j<k->c<w->c≠j->?gP=0)/\(∀i j,i<n->j<k->?UO)
theorem Nr.flip{n w k:Nat}{T:Mat}(h:?mL):Nr w n k (?UF):=⟨h.2.1,h.1,h.2.2.1,fun j c hj hc hne=>h.2.2.2.2 c j hc hj hne,fun i j hi hj hne=>h.2.2.2.1 j i hj hi hne⟩
def LF(n w k:Nat)(T:Mat):Prop:=?mL/\k<n/\k<w/\0<?aE/\∀c,c<w->c≠k->?c1=0
theorem Ew.keep[?f0][?CP]:∀{k:Nat},?mL->Nr n w k T'/\(∀j c,j<k->c<w->T' j c=?gP)/\∀r t,?b3->?m5->(?mD)->k<=r/\∀j,j<k->t j=j:=by
 intro k
 induction k with
 | zero =>
   intro h;exact⟨?LI,?nR,fun r t _ _ _=>⟨?aG,?i5⟩⟩
 | succ k ih =>
   intro h;obtain⟨hn,hw,hp,hr,hc⟩:=h;obtain⟨c1,c2,c3⟩:=ih ⟨O9m,O9m,?a2F ?N0,fun j c hj=>hr j c O9m,fun i j hi hj=>hc i j hi O9m⟩
   have key:∀r t,?b3->?m5->(?mD)->k<r/\?sA/\(∀c,c<w->?xV=?c1):=by
    intro r t iT hst hz;obtain⟨kr,ht⟩:=?FL;have hin:=(s.bwd k O9m).sub iT hz;obtain⟨x,hx⟩:=?wU;have v0:?WT:=fun l hl=>by rw[ht l hl];exact hc k l O9m O9m O9m
    obtain⟨x0,_⟩:=?x6;have hpk:=?X2
    have hlt:k<r:=by
     ext gY
     have:?nJ:=by
      rw[?T6];ext BZ
     omega
    have htk:?sA:=by
     have g:=?S9;refine qi6 ?eI g
     have:?nJ:=by
      rw[?T6];ext tC;by_cases e:l<k
      . rw[x0 l e];simp
      . ext YI
     omega
    obtain⟨_,a2⟩:=?x6;ext YC;obtain⟨y,hy⟩:=s.fwd k O9m
    have e2:?cW=y k*?aE:=by
     rw[hy k ?c];exact ?a2 O9m fun l hl hne=>by rw[hc l k hl ?c hne];simp
    have same:?aE=?cW:=by
     ext Z5
     have d2:?aE∣ ?cW:=⟨y k,by rw[e2,qf3]⟩
     exact Int.le_antisymm (?LN) (qm8 hpk d1)
    refine⟨hlt,htk,fun c hcw=>?_⟩;exact(?VP hin hlt v0 (by rw[htk];exact same) (fun l hl1 hl2=>hr k ?s O9m (?eK l hl2) (?a3W l)) c hcw).symm
   obtain⟨r,t,iT,hst,hz⟩:=s.st;obtain⟨k1,k2,k3⟩:=?IV;refine⟨⟨hn,hw,?a4,?U7,?IX⟩,fun j c hj hcw=>?_,fun r t iT hst hz=>?_⟩
   . ext bE
     . subst e;rw[k3 j ?c];exact ?N0
     . exact c1.2.2.1 j O9m
   . ext bE
     . subst e;rw[?VX];exact ?a49 hr
     . exact ?a49 ?S8
   . ext bE
     . subst e;by_cases e2:i<j
       . exact ?S8 i j e2 O9m O9m
       . by_cases e3:i<r
         . exact ?a2I j j
         . exact hz i j O9m hi O9m
     . exact c1.2.2.2.2 i j hi O9m hne
   . ext bE
     . subst e;exact ?VX
     . exact c2 j c O9m hcw
   . obtain⟨a,b,_⟩:=?IV;obtain⟨_,ht⟩:=?FL;refine⟨a,?a4⟩;ext bE
     . rw[e];exact b
     . exact ?U0
def Wh[?b1](T No:Mat):Prop:=∃T',?v0/\Ew w n (?a3L T') (?a3L No)
def Straight[?b1](T:Mat):Prop:=∀i j,i<n->j<w->?UO
theorem Wh.next{n w k:Nat}[?CO](h:?mL):?V3/\(?QM n w No\/?RE):=by
 obtain⟨T',s1,s2⟩:=s;obtain⟨h1,_,h3⟩:=s1.keep h;obtain⟨g1,_,g3⟩:=?FY;have hc:?V3:=g1.flip;refine(?a4L hc);obtain⟨r,t,iT,hst,hz⟩:=s1.st;obtain⟨q,u,hqw,aC,qQ⟩:=s2.st;obtain⟨kr,ht⟩:=?LR;obtain⟨kq,hu⟩:=?G7;by_cases e:k<r
 . right;have p:=?oA k e;have tw:=?eK k e;have tk:k<=t k:=?m3 k e;have hin:=(?oM ?a6 tw).sub hqw qQ;obtain⟨x,hx⟩:=?wU
   have v0:∀l,l<k->?a59 ?s1:=fun l hl=>by
    show T' ?s1 ?a6=0;rw[hu l hl];exact ?nH l ?a6 hl tw O9m
   obtain⟨x0,_⟩:=aC.lead hx k kq v0;have hkn:k<n:=O9m
   have kq2:k<q:=by
    ext gY
    have:T' k ?a6=0:=by
     show ?a59 k;rw[?I2];ext BZ
    omega
   have huk:u k=k:=by
    refine ?Q7
    have:T' k ?a6=0:=by
     show ?a59 k;rw[?I2];ext tC;by_cases e2:l<k
     . rw[x0 l e2];simp
     . show x l*?yN=0;ext Y3
    omega
   have p2:=?DP;rw[huk]at p2;refine⟨hc,hkn,O9m,p2,?I0⟩;rcases qh1 c k with z | z
   . exact hc.2.2.2.2 k c hkn z O9m
   . by_cases e3:c<q
     . exact ?a2G e3 e3
     . exact qQ c k O9m hcw hkn
 . left;have T'0:∀i c,k<=i->?P3:=fun i c hi hin hcw=>hz i c O9m hin hcw;intro i j hi hj hne;rcases qh1 i k with z | z
   . exact hc.2.2.2.1 i j z hj (fun w=>hne w.symm)
   . obtain⟨y,hy⟩:=?a4J s2.fwd;have:No i j=Al (fun l=>y l*T' i l) w:=hy i hi;rw[this];exact ?S fun l hl=>by rw[T'0 i l z hi hl];simp
theorem Wh.less{n w k:Nat}[?CO](h:?GY):Nr n w ?c6 No\/(?RE/\?lU∣ ?aE/\?lU<?aE):=by
 obtain⟨hcl,hn,hw,hp,hr⟩:=h;have s0:=s;obtain⟨T',s1,s2⟩:=s;obtain⟨h1,_,h3⟩:=s1.keep hcl;obtain⟨r,t,iT,hst,hz⟩:=s1.st;obtain⟨kr,ht⟩:=?LR;have hin:=(s1.bwd k hn).sub iT hz;obtain⟨x,hx⟩:=?wU;have v0:?WT:=fun l hl=>by rw[ht l hl];exact hr l O9m O9m
 obtain⟨x0,a2⟩:=?x6
 have hlt:k<r:=by
  ext gY
  have:?nJ:=by
   rw[hx k hw];ext BZ
  omega
 have htk:?sA:=by
  refine qi6 ?eI (?S9)
  have:?nJ:=by
   rw[hx k hw];ext tC;by_cases e:l<k
   . rw[x0 l e];simp
   . ext YI
  omega
 ext YC;ext Z5
 have le1:=qm8 hp d1
 have below:∀i,i<n->i≠k->T' i k=0:=fun i hi hne=>by
  rcases qh1 i k with z | z
  . exact ?nH i k z hw O9m
  . by_cases e3:i<r
    . exact ?a2I k k
    . exact hz i k O9m hi hw
 by_cases same:?cW=?aE
 . left;have row:∀c,c<w->?c1=?xV:=?VP hin hlt v0 (by rw[htk];exact same.symm) (fun l hl1 hl2=>hr ?s (?eK l hl2) (?a3W l))
   have cl':Nr n w ?c6 T':=by
    refine⟨O9m,O9m,?a4,?U7,?IX⟩
    . ext bE
      . subst e;exact pk
      . exact h1.2.2.1 j O9m
    . ext bE
      . subst e;rw[←row c hcw];exact hr c hcw hne
      . exact ?a49 ?nH
    . ext bE
      . subst e;exact below i hi hne
      . exact h1.2.2.2.2 i j hi O9m hne
   exact(s2.keep cl'.flip).1.flip
 . right;have lt1:?cW<?aE:=O9m
   obtain⟨hc2,q2⟩:=s0.next hcl;obtain⟨g1,_,g3⟩:=?FY;obtain⟨q,u,hqw,aC,qQ⟩:=s2.st;obtain⟨kq,hu⟩:=?G7;have Bd6:=(?oM k hw).sub hqw qQ;obtain⟨y,hy⟩:=id Bd6
   have w0:∀l,l<k->(?a11 T' k) ?s1=0:=fun l hl=>by
    show T' ?s1 k=0;rw[hu l hl];exact ?nH l k hl hw O9m
   obtain⟨y0,b2⟩:=aC.lead hy k kq w0;have hyk:?cW=Al (fun l=>y l*?yN) q:=hy k hn
   have kq2:k<q:=by
    ext gY
    have:?cW=0:=by
     rw[hyk];exact ?a3R y0
    omega
   have huk:u k=k:=by
    refine ?Q7
    have:?cW=0:=by
     rw[hyk];ext tC;by_cases e2:l<k
     . rw[y0 l e2];simp
     . ext Y3
    omega
   have e3:T' (u k) k=y k*?IO:=b2 kq2;rw[huk]at e3;have p2:0<?IO:=?DP;rw[huk]at p2;have d2:?lU∣ ?cW:=⟨y k,by rw[e3,qf3]⟩
   have le2:=?LN;refine⟨⟨hc2,hn,hw,p2,?I0⟩,qw1 d2 d1,O9m⟩;rcases qh1 c k with z | z
   . exact hc2.2.2.2.2 k c hn z O9m
   . by_cases e4:c<q
     . exact ?a2G e4 e4
     . exact qQ c k O9m hcw hn
def Tg(i:Nat):Int:=if i%2=0 then 1 else -1
theorem Yq(i:Nat):Tg ?i=- Tg i:=by
 unfold Tg;by_cases h:i%2=0
 . rw[?n,?rN]
 . rw[?Y,?hW];rfl
theorem Xw(i:Nat):(Tg i).natAbs=1:=by unfold Tg;split<;>rfl
def Gq(A:Mat)(i:Nat):Mat:=fun r c=>?wW
def det:Nat->Mat->Int
 | 0,_=>1
 | n+1,A=>?lV
theorem Dg:∀{n:Nat}{A B:Mat},(∀r c,r<n->c<n->?iT=B r c)->?cQ=?a52 B
 | 0,_,_,_=>rfl
 | n+1,A,B,h=>by
   ext tJ;rw[h i 0 hi ?c,Dg (n:=n) (A:=Gq A i) (B:=Gq B i)];intro r c hr hc;exact ?N7
def B5(A:Mat)[?D1]:Mat:=fun r c=>if r=p then u c else ?iT
theorem Bq(A:Mat)[?D1](c:Nat):B5 A p u p c=u c:=?r
theorem Bv{A:Mat}{p r:Nat}{u:?j}(h:?f4)(c:Nat):B5 A p u r c=?iT:=?hW
theorem T9{A:Mat}{p i:Nat}{u:?j}(h:i≠p):Gq ?jS i=B5 (Gq A i) ?fD (?a2C ?k1):=by
 funext r c
 show(if ?a1P i then ?k1 else ?wW)=if r=?fD then ?k1 else ?wW
 have e:(?a1P i)↔(r=?fD):=by
  split<;>split<;>omega
 by_cases z:r=?fD
 . rw[?d5,?m (e.mpr z)]
 . rw[?eH,?f fun w=>z (e.mp w)]
theorem Jg{A:Mat}{p:Nat}{u:?j}:Gq ?jS p=Gq A p:=by
 funext r c
 show(if ?a1P p then ?k1 else ?AD)=?AD;rw[?f ?bF]
theorem Fl:∀{n p:Nat} (A:Mat) [?nA] (a b:Int),p<n->?a0J ?TB=a*?a52 ?jS+b*?a0J v
 | n+1,p,A,u,v,a,b,hp=>by
   show ?pR=a*?pR+b*?pR;ext jE;ext tJ;by_cases e:i=p
   . subst e;rw[Bq,Bq,Bq,Jg,Jg,Jg]
     grind
   . rw[?g8,?g8,?g8,T9 e,T9 e,T9 e];rw[Fl (Gq A i) (?a2C ?k1) (fun c=>v ?aV) a b ?bF]
     grind
theorem Hs(A:Mat)(p:Nat):?KT=A:=by
 funext r c
 unfold B5;split
 . rename_i h;rw[h]
 . rfl
theorem Cm{A:Mat}{p q:Nat}(h:?g5)[?nA]:?W8=B5 (B5 A q v) p u:=by
 funext r c
 unfold B5;by_cases e:r=q
 . rw[?bG,?n,?bG]
 . rw[?c9,?c9]
theorem dO:∀[?tS],p+1<n->(?a35 ?bH)->?o3
 | n+1,p,A,hp,h=>by
   show ?lV=0
   have same:?zZ=?w1:=Dg fun r c hr hc=>by
    show ?AD=A (if r<p+1 then r else r+1) ?aV;ext jO
    . subst e;rw[?n,?Y];exact(?qM).symm
    . by_cases e2:r<p
      . rw[?hF,?Y]
      . ext CC
   have two:?lV=Al (fun i=>((if i=p then 1 else 0)*(Tg p*A p 0*?zZ))+((if i=p+1 then 1 else 0)*(Tg ?bH*A ?bH 0*?w1))) ?E:=by
    ext tJ;by_cases e1:i=p
    . subst e1;rw[?r,?n];simp
    . by_cases e2:i=p+1
      . subst e2;ext t8;simp
      . rw[?aX,?gF]
        have z:?OS=0:=by
         refine dO (p:=?TM) ?bF ?bJ;show A (if ?fD<i then ?fD else ?nZ) ?aV=A (if ?nZ<i then ?nZ else ?nZ+1) ?aV;by_cases e3:p<i
         . rw[?wH,?wH,?Y];exact ?qM
         . rw[?y4,?n,?n,show p-1+1=p by omega];exact ?qM
        rw[z];simp
   rw[two,C4,Dj (fun _=>Tg p*A p 0*?zZ) p ?E,?Y,Dj (fun _=>Tg ?bH*A ?bH 0*?w1) ?bH ?E,?Y];rw[Yq,←same,←h 0 ?c]
   grind
theorem BN[?tS](hp:p+1<n)[?nA]:?a5H (B5 ?jS ?bH v) ?bH:=by
 have ne:p≠p+1:=O9m
 have z:?a2S ?bH:=fun w=>dO hp ?KN
 have e0:=z fun c=>1*u c+1*v c;rw[?a2H (B5 A p _) hp,?aQ,?aQ,?a2H (B5 A ?bH u) ?c,?a2H (B5 A ?bH v) ?c]at e0;ext YS
theorem DM:∀(d:Nat) [?tS],p+d+1<n->(?a35 (p+d+1))->?o3
 | 0,n,p,A,hp,h=>dO hp h
 | d+1,n,p,A,hp,h=>by
   have e:A=B5 (B5 A (p+d+1) (A (p+d+1))) (p+d+1+1) (A (p+d+1+1)):=?DJ
   rw[e,BN ?c];rw[DM d (p:=p) ?c ?bJ]
   . rfl
   . rw[?iD,?iD,?iD,Bq];exact ?r0
theorem Gc[?dR]{A:Mat}[?dU](hq:q<n)(hne:?g5)(h:?a35 q):?o3:=by
 rcases qh1 p q with z | z
 . exact DM (q-p-1) (p:=p) O9m (by rw[show p+(q-p-1)+1=q by omega];exact h)
 . exact DM (p-q-1) (p:=q) O9m (by rw[show q+(p-q-1)+1=p by omega];exact fun c hc=>(?r0).symm)
theorem vF[?dR](A:Mat)[?dU](hq:q<n)(hne:?g5)(k:Int):?a0J ?X4=?cQ:=by
 have:=Fl A ?bA ?d3 1 k hp;rw[Hs,Gc (A:=?PR) hp hq hne fun c _=>by rw[Bq,Bv (?EC)]]at this;rw[←show(fun c=>1*?bZ+k*A q c)=?X4 from ?a5D ?J1,this];omega
theorem GH[?dR]{A:Mat}[?aY][?nA]:?a5H (?W8) q:=by
 ext XS
 have e0:=z fun c=>1*u c+1*v c;rw[?a2H (B5 A p _) hq,?aQ,?aQ,?a2H (B5 A q u) hp,?a2H (B5 A q v) hp]at e0;ext YS
theorem VE{n p:Nat}(A:Mat)[?dU]:?a0J ?F4=- ?cQ:=by
 have:=Fl A ?bA ?bA ?C 0 hp;rw[Hs]at this;rw[show(?F4)=fun c=>-1*?bZ+0*?bZ from ?a5D ?uJ,this];omega
theorem NG[?dR](A:Mat)[?aY][?eV](h:a*d-b*c=1) :
 ?a52 (B5 (B5 A p fun k=>a*A p k+b*A q k) q fun k=>c*A p k+d*A q k)=?cQ:=by
 ext XS
 have e:?a52 (B5 (?KT) q ?d3)=?cQ:=?DJ
 have e2:=GH (A:=A) hp hq ne ?bA ?d3;rw[Fl _ ?bA ?d3 c d hq,?aQ,?aQ,?a4G ?bA,?a4G ?d3];rw[←?aQ,←?aQ,←?aQ,←?aQ,z ?bA,z ?d3];rw[e]at e2 ⊢;have e3:?a52 (B5 (?PR) q ?bA)=- ?cQ:=O9m
 rw[e3]
 grind
def prodN[?G]:?j
 | 0=>1
 | n+1=>?rZ
theorem Wr[?G]:∀n,?BE=f 0*?U2
 | 0=>by simp[prodN]
 | n+1=>by
   show ?BE*f ?E=f 0*(?U2*f ?E);rw[Wr f n,qf2]
theorem X3:∀{n:Nat}{A:Mat},(∀r c,r<n->c<r->?iT=0)->?cQ=?a51 A n
 | 0,_,_=>rfl
 | n+1,A,h=>by
   show ?lV=_;rw[?a2 (j:=0) ?c fun k hk hne=>by rw[h k 0 hk ?c];simp,Wr]
   rw[X3 (n:=n) (A:=Gq A 0) fun r c hr hc=>by
    show ?a16 0=0;ext d0;exact h _ _ ?c ?c]
   show 1*A 0 0*?k (fun j=>A (if j<0 then j else j+1) ?O) n=_;rw[qd5];rfl
def DK:?u
 | 0=>1
 | n+1=>?K6
theorem Pk[?B]{M:Nat}:∀{n:Nat},(∀k,k<n->?xX<=M)->?V1<=n*M
 | 0,_=>?NV
 | n+1,h=>by
   have a:=Pk (n:=n) ?gQ;have b:=?nK;have c:=qf6 (?bY) (f n);show ?P9<=?E*M;rw[qf8,qf7];omega
theorem RA:∀{n:Nat}{A:Mat}{B:Nat},(∀r c,r<n->c<n->?WC<=B)->?FN<=?JC
 | 0,_,_,_=>by simp[det,DK]
 | n+1,A,B,h=>by
   show(?pR).natAbs<=?K6*B ^ ?E
   have:?O6<=?E*(B*(?JC)):=by
    refine Pk ?o0;rw[qb1,qb1,Xw,qf7];exact qf5 (h i 0 hi O9m) (RA fun r c hr hc=>?N7)
   refine qa6 ?F ?WG;rw[qh0]
   grind
structure Jc(i:Nat)(R:Mat)[?H]:Prop where
 inc:?a2T i
 zero:?P2
 pos:?KM
theorem Di.s0[?n7][?h][?n9]:Jc r R t:=⟨?cJ,?aT,?Z⟩
theorem Jc.low[?nC][?h][?nF]{j l:Nat}(hj:j<i)(hl:l<j):?iH=0:=?aT j _ hj (?cJ l j hl hj)
theorem Ul:∀[?tS],p<n->(∀c,c<n->?bZ=0)->?o3:=fun {n p A} hp h=>by
 have:=Fl A ?bA ?bA 0 0 hp;rw[show(fun c=>0*?bZ+0*?bZ)=?QD from ?a5D ?uJ]at this
 rw[show ?cQ=?a0J ?cM from Dg fun r c hr hc=>by
  unfold B5;split
  . rename_i e;rw[e];exact ?r0
  . rfl,this]
 omega
theorem C8[?B]:∀{n:Nat},(?vU)->0<?f3
 | 0,_=>?M1
 | n+1,h=>?r7 (C8 ?gQ) (?nK)
def pb(R:Mat)[?H](k:Nat):?j
 | 0=>1
 | m+1=>?r1
def Rw(R:Mat)[?H](k:Nat):Nat->(?j)
 | 0=>R k
 | m+1=>fun c=>?hD*?a18 m c+?oL*R ?fJ c
section
variable[?nC][?h][?nF]
include h
theorem PL{k:Nat}:∀{m:Nat},?hV->0<?m2
 | 0,_=>?M1
 | m+1,hm=>?r7 (?Z _ O9m) (PL O9m)
theorem DV{k l:Nat}(hl:l<k):∀{m:Nat},?hV->?A2=0
 | 0,hm=>?eL hm hl
 | m+1,hm=>by
   ext XX;rw[DV hl ?c,?UL];simp
theorem GN{k:Nat}:∀{m:Nat},?hV->?F7=?m2*?gG
 | 0,_=>by show ?gG=1*?gG;omega
 | m+1,hm=>by
   show ?hD*?F7+?oL*R ?fJ ?a6=?r1*?gG;rw[GN ?c,?eL (j:=?kS) (l:=k) ?c ?c,qf2];simp
theorem DU{k:Nat}:∀{m l:Nat},?hV->k<l->l<=k+m->?A2=0
 | 0,l,_,h1,h2=>O9m
 | m+1,l,hm,h1,h2=>by
   ext XX;by_cases e:l=?kS
   . subst e;rw[qf3,qn8];omega
   . rw[DU ?c h1 ?c,?UL];simp
theorem rO{W:Nat}{k:Nat}:∀{m:Nat},?hV->In W i R (Rw R t k m)
 | 0,hm=>?K hm
 | m+1,hm=>(rO O9m).mix ?R8 _ _
theorem LA{k:Nat}(s:?u):∀{m:Nat},?hV->?a5F (B5 ?gB k ?TC)=?m2*?a5F ?gB
 | 0,hm=>by
   show ?a5F (B5 ?gB k (?gB k))=1*_;rw[Hs];omega
 | m+1,hm=>by
   show ?a5F (B5 ?gB k fun c=>?hD*?O9+?oL*?VA)=_;rw[Fl ?gB (?TC) (?FD) _ _ ?c,LA s ?c];rw[Gc (p:=k) (q:=?kS) (A:=B5 ?gB k ?FD) ?c ?c ?c fun c _=>by rw[Bq,?iD]];show _=?r1*_;rw[qf2];omega
universe e9
theorem skip_prod[?B]{k:Nat}:∀(n:Nat),k<=n->?k (fun l=>?a0K f) n=?gO*?K5
 | 0,h=>by
   have:k=0:=O9m
   subst this;simp[prodN]
 | n+1,h=>by
   by_cases e:k=n+1
   . subst e;rw[show n+1-?E=0 by omega];show ?k _ ?E=?BE*1
     have:∀m,m<=n+1->?k (fun l=>f (if l<n+1 then l else l+1)) m=?bT:=by
      intro m
      induction m with
      | zero=>intro _;rfl
      | succ m ih =>
        intro hm;show ?AL*f (if m<n+1 then m else m+1)=?bT*f m;rw[?jX,?Y]
     rw[?F _ ?g];omega
   . show ?k _ n*f (if n<k then n else n+1)=_;rw[?GH n ?c,?n,show n+1-k=?iX+1 by omega];show _=?gO*(?K5*f (k+1+?iX));rw[show k+1+?iX=n+1 by omega,qf2]
theorem CI(R:Mat)[?H](k:Nat):∀m,?m2=?k (fun l=>R (k+1+l) (t (k+1+l))) m
 | 0=>rfl
 | m+1=>by
   show ?r1=?AL*?hD;rw[CI R t k m,qf3]
def aW[?H](k c:Nat):?u
 | 0=>c
 | l+1=>?a0K t
theorem Aa6[?nC][?h][?nF]{k c:Nat}(hk:k<i){D:Nat}(hD:?a1E ?sP D):(?a18 ?vA c).natAbs<=D:=by
 have hm:k+?vA<i:=O9m
 have e1:=LA h (k:=k) (aW t k c) hm
 have hu0:∀l,l<i->l≠k->?a18 ?vA ?s=0:=fun l hl hne=>by
  rcases qh1 l k with z | z
  . exact DV h z hm
  . exact DU h hm O9m O9m
 obtain⟨n,rfl⟩:∃n,i=n+1:=?LX
 have e2:det ?E (B5 (?sP) k fun l=>?a18 (n+1-1-k) (aW t k c l))=Tg k*?a18 (n+1-1-k) c*?k (fun l=>R (if l<k then l else l+1) (?a0K t)) n:=by
  show Al (fun j=>Tg j*B5 _ k _ j 0*?a52 (Gq (B5 _ k _) j)) ?E=_;rw[?a2 (j:=k) hk ?uL]
  . rw[Bq,Jg]
    congr 1
    refine X3 fun r l hr hl=>?_;show R (if r<k then r else r+1) (?a0K t)=0;refine ?eL ?bF ?_;split<;>split<;>omega
  . rw[T9 hne,Ul (p:=if k<j then k else k-1) ?bF ?rF]
    . simp
    . rw[Bq];show Rw R t k (n+1-1-k) (?a0K t)=0;exact hu0 _ ?bF ?bF
 rw[e1]at e2;rw[?GH (f:=?p6) n ?c,←CI,?NN]at e2;rw[?NN];have pp:=PL h (k:=k) (m:=n-k) O9m;have qp:0<?J5:=C8 (?a2F ?l5);have e3:=?K2 ?FG e2;rw[qb1,qb1,qb1,qb1,Xw,qf7]at e3;have p1:0<?g6:=O9m
 have q1:1<=?HW:=O9m
 have:?g6*?xL<=?g6*D:=by
  calc ?g6*?xL<=?xL*(?HW*?g6):=by
        rw[?SS ?g6];exact qe8 _ (qm2 _ q1)
   _=?g6*(det ?E ?sP).natAbs:=e3.symm
   _<=_:=qe8 _ hD
 exact qr3 ?F p1
theorem bI[?nC][?h][?nF]:?a5F ?kW=?kP:=X3 fun r c hr hc=>?eL hr hc
theorem Y0[?B]:∀{n j:Nat},(?vU)->j<n->f j<=?f3
 | n+1,j,h,hj=>by
   have p:=C8 (n:=n) ?gQ;have q:=?nK;show f j<=?rZ;by_cases e:j=n
   . subst e;have:1*f j<=?k f j*f j:=?pZ;omega
   . have ih:=Y0 (n:=n) (j:=j) (?gQ) O9m;have:?f3*1<=?rZ:=?E2;omega
theorem VA[?nC][?h][?nF]{D:Nat}(hD:?a1E ?xQ D){j:Nat}(hj:j<i):?aB<=D:=by
 rw[bI h]at hD;have a:=Y0 (f:=?p6) (fun k hk=>?vB) hj;have b:=C8 (f:=?p6) (n:=i) (fun k hk=>?vB);omega
theorem Jc.none{W i:Nat}{R:Mat}[?h][?Z1](h0:∀j,j<i->?gL=0):∀c,c<W->v c=0:=by
 obtain⟨x,hx⟩:=hv
 have x0:∀m,m<=i->∀j,j<m->x j=0:=by
  intro m
  induction m with
  | zero=>intro _ j hj;omega
  | succ m ih =>
    intro hm j hj;by_cases e:j<m
    . exact ih O9m j e
    have ej:j=m:=O9m
    subst ej;have e1:=hx ?I (?U0);rw[h0 j ?c,?a2 (j:=j) ?c ?xO]at e1
    . rcases ?oN e1.symm with z | z
      . exact z
      . have:=?l5;omega
    . by_cases e2:k<j
      . rw[ih ?c k e2];simp
      . rw[?eL hk ?c];simp
 intro c hc;rw[?e9];exact ?S fun k hk=>by rw[x0 i ?g k hk];simp
theorem In.sum{W i:Nat}{R:Mat}{a:?j}{U:Mat}:∀{m:Nat},(∀j,j<m->In W i R (U j))->In W i R (?a2C ?AB)
 | 0,_=>?p9 W i R
 | m+1,h=>by
   have:=(?wD (a:=a) (U:=U) (m:=m) (?a2E h)).mix (h m O9m) 1 (a m)
   exact this.congr fun c _=>by
    show 1*?AB+?m0=?AB+?m0;omega
theorem Sx[?G]:∀(n k:Nat),k<n->?f3=?gO*(?xF*f k)
 | n+1,k,h=>by
   by_cases e:k=n
   . subst e;rw[show k+1-1-k=0 by omega];show ?gO*f k=?gO*(1*f k);rw[qd5]
   . show ?rZ=_;rw[Sx f n k ?c,show n+1-1-k=?mA+1 by omega];show _=?gO*(?k _ ?mA*f (k+1+?mA)*f k);rw[show k+1+?mA=n by omega]
     grind
theorem Ao3[?B]:∀{n k:Nat},(∀l,l<n->0<f l)->k<n->?gO*f k<=?f3:=fun {n k} h hk=>by
 rw[Sx f n k hk];have a:=C8 (n:=k) fun l hl=>h l O9m;have b:0<?xF:=C8 fun l hl=>?qM;have c:=h k hk;have d:1*f k<=?xF*f k:=?pZ;rw[qd5]at d;exact qm1 d O9m
theorem TM{W i:Nat}{R:Mat}[?h][?Z1]{κ D c:Nat}(hc:c<W)(hκ:∀j,j<i->?HD<=κ*?fM)
 (hD:∀k,k<i->?a1E ?sP D):(v c).natAbs<=i*?xA:=by
 have hp:∀l,l<i->0<?mS l:=fun l hl=>?Z l hl;have EP:=C8 (n:=i) hp
 have key:?kP*v c=?vC:=by
  have hin:In W i R (?a2C ?T3) :=
   hv.mix (?wD (a:=fun j=>?gL*?mJ) (U:=fun j=>Rw R t j ?B5) fun j hj=>rO h O9m) _ _
  have:=h.none ht hin (fun m hm=>?_) c hc
  . show _=_;have t:?T3=0:=this;omega
  . show ?kP*v (t m)+?C*Al (fun j=>(?gL*?mJ)*?DC) i=0;rw[?a2 (j:=m) hm ?uL]
    . rw[GN h ?c,CI,Sx ?mS i m hm]
      grind
    . have:?DC=0:=by
       rcases qh1 m j with z | z
       . exact DV h z O9m
       . exact DU h O9m O9m O9m
      ext cF
 have e:=?K2 ?FG key;rw[qb1]at e
 have le:(?vC).natAbs<=i*(?yR*?xA):=by
  refine Pk ?a4;rw[qb1,qb1];have a1:=?a4J hκ;have a2:=Aa6 h hj (?a4J hD);have a3:=Ao3 hp hj;have a4:=C8 (n:=j) fun l hl=>hp l O9m;have a5:=?a4J hp
  have a6:?sL*?fM<=?yR:=by
   rw[←qb1];have:0<?mJ*?aB:=?r7 a4 a5;omega
  calc ?HD*?sL*(?FJ).natAbs
   ≤ κ*?fM*?sL*D:=qf5 (qb6 _ a1) a2
   _=?sL*?fM*?xA:=?D
   _<=_:=qb6 _ a6
 rw[←e]at le;have E1:0<?yR:=O9m
 refine qr3 (qa6 le ?WG) E1
 grind
theorem In.trans{W n m:Nat}{R R':Mat}{v:?j}(hv:In W n R v)(h:∀j,j<n->In W m R' ?j6):In W m R' v:=by
 obtain⟨x,hx⟩:=hv;exact(?wD (a:=x) (U:=R) h).congr fun c hc=>(?e9).symm
def OF(W n:Nat)(R R':Mat):Prop:=(∀j,j<n->In W n R (R' j))/\(∀j,j<n->In W n R' ?j6)
theorem OF.refl(W n:Nat)(R:Mat):?a2W R:=⟨?GG,?GG⟩
theorem OF.trans{W n:Nat}{R S T:Mat}(h1:?a2W S)(h2:OF W n S T):?a2W T:=⟨fun j hj=>(h2.1 j hj).trans h1.1,fun j hj=>(h1.2 j hj).trans h2.2⟩
def Fs(n:Nat)(R R':Mat):Prop:=∀s:?u,(det n (?a26 R')).natAbs=(?a52 ?wR).natAbs
theorem Fs.refl(n:Nat)(R:Mat):Fs n R R:=?FZ
theorem Fs.trans{n:Nat}{R S T:Mat}(h1:Fs n R S)(h2:Fs n S T):Fs n R T:=fun s=>(h2 s).trans (h1 s)
theorem M0(R:Mat)[?D1](s:?u):(fun r l=>B5 R p u r ?b7)=B5 ?pB p (fun l=>u ?b7):=by
 funext r l
 unfold B5;split<;>rfl
def addR[?gZ](k:Int):Mat:=B5 R p ?LC
theorem Co[?gZ](k:Int)(c:Nat):?q R p q k p c=?KB:=Bq ..
theorem Dc[?tP]{k:Int}(h:?f4)(c:Nat):?q R p q k r c=?bP:=Bv h c
theorem vO[?dR](R:Mat)[?aY](k:Int):Fs n R ?g3:=fun s=>by
 unfold addR;rw[M0];have:=vF ?pB hp hq ne k;rw[show(fun l=>1*R p ?b7+?HN)=fun l=>R p ?b7+?HN from ?aD fun l=>?J1,this]
theorem VN{W n p q:Nat}(R:Mat)[?aY](k:Int):?a2W ?g3:=by
 ext t6
 . ext jN
   . subst e;exact(?u1 ?PZ 1 k).congr fun c _=>(Co R j q k c).symm
   . exact ?mK fun c _=>(?y0).symm
 . ext jN
   . subst e;refine((?a2D ?KU).mix (?K (R:=?KU) hq) 1 (-k)).congr ?OX;rw[Co,Dc ?fL];show 1*(1*?e8+k*R q c)+-k*R q c=?e8;rw[qn8];omega
   . exact(?a2D ?WB).congr fun c _=>?y0
def G9(R:Mat)(p:Nat):Mat:=B5 R p fun c=>- ?cN
theorem uP{n p:Nat}(R:Mat)[?dU]:Fs n R ?i4:=fun s=>by
 unfold G9;rw[M0,VE ?pB hp,qc7]
theorem UO{W n p:Nat}(R:Mat)[?dU]:?a2W ?i4:=by
 ext t6
 . ext jN
   . subst e;exact(?u1 (?l9) ?C 0).congr ?RJ
   . exact ?mK fun c _=>(Bv e c).symm
 . ext jN
   . subst e;exact((?UU).mix (?UU) ?C 0).congr ?RJ
   . exact(?K (R:=G9 R p) hj).congr fun c _=>Bv e c
def blendR[?gZ][?eV]:Mat:=B5 (B5 R p ?V4) q ?SG
theorem G7{R:Mat}{p q:Nat}(ne:?g5)[?eV](k:Nat):?a2Y p=?PH:=by unfold blendR;rw[Bv ne,Bq]
theorem Jj[?gZ][?eV](k:Nat):?a2Y q=?IW:=by unfold blendR;rw[Bq]
theorem Ec[?tP](h1:?f4)(h2:r≠q)[?eV](k:Nat):?a2Y r=R r k:=by unfold blendR;rw[Bv h2,Bv h1]
theorem nX[?dR](R:Mat)[?aY][?tF]:Fs n R ?lH:=fun s=>by
 unfold blendR;rw[M0,M0];rw[NG ?pB hp hq ne a b c d h]
theorem NW{W n p q:Nat}(R:Mat)[?aY][?tF]:?a2W ?lH:=by
 ext t6
 . ext jN
   . subst e;exact(?u1 ?PZ a b).congr fun k _=>(?I4).symm
   . by_cases e2:j=q
     . subst e2;exact((?K hp).mix (?l9) c d).congr fun k _=>(Jj R p j a b c d k).symm
     . exact ?mK fun k _=>(?NI).symm
 . ext jN
   . subst e;refine((?a2D ?H0).mix (?K (R:=?H0) hq) d (-b)).congr ?xP;ext YZ
     grind
   . by_cases e2:j=q
     . subst e2;refine((?K (R:=?X3) hp).mix (?a2D ?X3) (-c) a).congr ?xP;ext YZ
       grind
     . exact(?a2D ?MJ).congr fun k _=>?NI
def moveR(R:Mat)(i s:Nat):Mat:=fun r c=>if r<s then ?bP else if r=s then ?fG else if ?c8 then R ?iU c else ?bP
theorem FQ{n:Nat}:∀(d:Nat) (R:Mat) {i s:Nat},i<n->i=s+d->Fs n R ?iM
 | 0,R,i,s,hi,e=>by
   have:?kT=R:=by
    funext r c
    ext cH;by_cases e1:r<s
    . rw[?iZ]
    . rw[?aX];by_cases e2:r=s
      . rw[?hF,e2,?VM]
      . ext CC
   rw[this];exact Fs.refl n R
 | d+1,R,i,s,hi,e=>by
   obtain⟨j,rfl⟩:∃j,i=j+1:=?LX
   have h1:Fs n R (?a1V R):=fun t=>by
    rw[M0,M0,BN ?c,qc7]
    rw[show B5 (B5 ?kW j ?IJ) ?O (fun l=>R ?O ?s)=?xQ from by
     have:=Hs ?kW j;rw[show(?IJ)=?kW j from rfl,this];exact Hs ?kW ?O]
   have h2:=FQ (n:=n) d (?a1V R) (i:=j) (s:=s) O9m O9m
   have e3:?Q (?a1V R) j s=?Q R ?O s:=by
    funext r c
    ext cH;by_cases e1:r<s
    . rw[?iZ,?iZ,?iD,?iD]
    . rw[?aX,?aX];by_cases e2:r=s
      . rw[?hF,?hF,Bv (show j≠j+1 by omega),Bq]
      . rw[?gF,?gF];by_cases e4:?aI
        . rw[?m e4,?m (show r<=j+1 by omega),Bv (show r-1≠j+1 by omega),Bv (show r-1≠j by omega)]
        . rw[?yL];by_cases e5:r=j+1
          . subst e5;rw[Bq,?Y];rfl
          . rw[?f (show ¬r<=j+1 by omega),Bv e5,Bv (?a0G r j)]
   rw[e3]at h2;exact ?K9 h2
theorem qC{W n:Nat}(R:Mat){i s:Nat}[?jI]:?a2W ?iM:=by
 ext t6
 . by_cases e1:j<s
   . exact ?mK ?MR
   . by_cases e2:j=s
     . exact(?K hi).congr fun c _=>by ext cH;rw[?aX,?hF]
     . by_cases e3:?cV
       . exact(?K (R:=R) (j:=j-1) O9m).congr (?a4D ?wH)
       . exact ?mK (?a4D ?y4)
 . by_cases e1:j<s
   . exact ?UP ?MR
   . by_cases e2:j=i
     . exact(?K (R:=?kT) (j:=s) O9m).congr fun c _=>by ext cH;rw[?n,?r,e2]
     . by_cases e3:j<i
       . exact(?K (R:=?kT) (j:=j+1) O9m).congr fun c _=>by ext cH;rw[?n,?n,?Y];rfl
       . exact ?UP fun c _=>by ext cH;ext BW
theorem Qx{f g:?j}[?dR][?aY](h:∀k,k<n->k≠p->k≠q->f k=g k)(e:f p+f q=g p+g q):?bY=?mR:=by
 have z:?RI=(f p-g p)+(f q-g q):=by
  have e1:?RI=Al (fun k=>(if k=p then 1 else 0)*(f p-g p)+(if k=q then 1 else 0)*(f q-g q)) n:=by
   refine ?vK;by_cases e1:k=p
   . subst e1;rw[?r,?mC];omega
   . rw[?aX];by_cases e2:k=q
     . subst e2;rw[?r];omega
     . rw[?gF,h k hk e1 e2];omega
  rw[e1,C4,Dj (fun _=>f p-g p) p n,?m hp,Dj (fun _=>f q-g q) q n,?m hq]
 rw[C4,Bg]at z;omega
def pT(n:Nat)(B R:Mat)(a b:Nat):Int:=?PI
theorem IB[?dR](B R:Mat)[?aY](k:Int)(a b:Nat):?a3U (?q B q p (-k)) ?g3:=by
 refine Qx hp hq ne (fun j _ h1 h2=>by rw[Dc h2,Dc h1]) ?_;rw[Dc (r:=p) (p:=q) ne,Co R p q k,Co B q p (-k),Dc ?fL]
 grind
theorem YN{n p:Nat}(B R:Mat)(a b:Nat):?a3U (G9 B p) ?i4:=by
 refine ?BO;by_cases e:k=p
 . subst e;unfold G9;rw[Bq,Bq,Int.neg_mul_neg]
 . unfold G9;rw[?g8,?g8]
theorem FF[?dR](B R:Mat)[?aY][?tF](x y:Nat):pT n (?a50 a) ?lH x y=pT n B R x y:=by
 refine Qx hp hq ne (fun j _ h1 h2=>by rw[?HC,?HC]) ?_;rw[?dB,?dB,Jj,Jj];have e1:?J3=(a*d-b*c)*(?J3):=?xB
 have e2:?HE=(a*d-b*c)*(?HE):=?xB
 grind
theorem aP[?G]:∀(d:Nat) {n i s:Nat},i<n->i=s+d->Al (fun r=>if r<s then f r else if r=s then f i else if ?c8 then f ?iU else f r) n=?bY
 | 0,n,i,s,hi,e=>Ak fun r _=>by
   by_cases e1:r<s
   . rw[?iZ]
   . rw[?aX];by_cases e2:r=s
     . rw[?hF,e2,?VM]
     . ext CC
 | d+1,n,i,s,hi,e=>by
   rw[←aP f d (n:=n) (i:=i) (s:=s+1) hi ?c];refine Qx (p:=s) (q:=s+1) O9m O9m O9m (fun r _ h1 h2=>?_) ?_
   . by_cases e1:r<s
     . rw[?iZ,?Y]
     . rw[?aX,?f h1,?f (show ¬r<s+1 by omega),?tZ]
   . rw[?n,?r,?n,?n,?Y,?Y,?n,?r];show f i+f (s+1-1)=f s+f i;rw[show s+1-1=s by omega];omega
theorem uG{n:Nat}(B R:Mat){i s:Nat}[?jI](a b:Nat):?a3U (?Q B i s) ?iM:=by
 show Al (fun k=>?Q B i s k a*?Q R i s k b) n=?PI;rw[←aP (fun k=>B k a*R k b) (i-s) (n:=n) (i:=i) (s:=s) hi ?c];refine Ak fun r _=>?_;ext cH;split
 . rfl
 . split
   . rfl
   . split<;>rfl
def pD[?b1][?T](i j:Nat):Int:=Al (fun c=>?AG*B j c) n
def F5[?b1][?T]:Prop:=∀i j,i<n->j<n->?ID=?qB
def dot[?b1][?nA]:Int:=Al (fun c=>u ?pX*v c) n
theorem D9[?b1](u v x:?j)(a b:Int):?a4O ?rM x=a*?a4O u x+b*?a4O v x:=by
 unfold dot;ext jE;exact Ak fun c _=>by rw[qt3,qf2,qf2]
theorem Gv[?b1](u x y:?j)(a b:Int):?a4O u (fun c=>a*x c+b*y c)=a*?a4O u x+b*?a4O u y:=by
 unfold dot;ext jE;exact Ak fun c _=>?D
theorem Y7[?b1][?T](i j:Nat):?ID=?S5:=rfl
theorem Nm[?gZ](k:Int):?q R p q k p=?LC:=?aD fun c=>Co ..
theorem addR_row_ne[?tP]{k:Int}(h:?f4):?q R p q k r=R r:=?aD fun c=>Dc h c
theorem blend_row_p{R:Mat}{p q:Nat}(ne:?g5)[?eV]:?a3I ?x p=?V4:=?aD fun k=>?I4
theorem blend_row_q[?gZ][?eV]:?a3I ?x q=?SG:=?aD fun k=>?a3I Jj k
theorem blend_row_ne[?tP](h1:?f4)(h2:r≠q)[?eV]:?a3I ?x r=R r:=?aD fun k=>Ec h1 h2 a b c d k
theorem F5.add{n w p q:Nat}[?n0][?aY](k:Int):?a3G ?g3 (?q B q p (-k)):=fun i j hi hj=>by
 ext BT
 rw[Y7];by_cases e1:i=p
 . subst e1;rw[Nm];by_cases e2:j=q
   . subst e2;rw[Nm,Gv,D9,D9,?b5,?OJ,?vE,?SO];rw[?mC,?r,?r,?f ?fL];omega
   . rw[?fO e2,D9,?b5,?R6,show ?a0I q j from ?qF];omega
 . rw[?fO e1];by_cases e2:j=q
   . subst e2;rw[Nm,Gv,?b5,?QV,?SF];omega
   . rw[?fO e2];exact ?b5
theorem F5.neg{n w p:Nat}[?n0][?dU]:?a3G ?i4 (G9 B p):=fun i j hi hj=>by
 ext BT
 have s1:∀(R:Mat),G9 R p p=fun c=>-1*?cN+0*?cN:=fun R=>?a5D ?JT
 have s2:∀(R:Mat) {r:Nat},?f4->G9 R p r=R r:=fun R r hr=>?aD fun c=>Bv hr c;rw[Y7];by_cases e1:i=p
 . subst e1;by_cases e2:j=i
   . subst e2;rw[s1,s1,Gv,D9,?wJ];rw[?r];omega
   . rw[s1,s2 B e2,D9,?b5,?qF];omega
 . by_cases e2:j=p
   . subst e2;rw[s1,s2 R e1,Gv,?b5,?aX];omega
   . rw[s2 R e1,s2 B e2];exact ?b5
theorem F5.blend{n w p q:Nat}[?n0][?aY]{a b c d:Int}(h1:a*d-b*c=1):?a3G ?lH (?a50 a):=fun i j hi hj=>by
 ext BT
 have ne':q≠p:=?x0;rw[Y7];by_cases e1:i=p
 . subst e1;rw[?jT];by_cases e2:j=i
   . subst e2;rw[?jT,Gv,D9,D9,?wJ,D q j hq hi,D j q hi hq,D q q hq hq]
     ext t2
     grind
   . by_cases e3:j=q
     . subst e3;rw[blend_row_q,Gv,D9,D9,?vE,D j i hq hi,D i j hi hq,D j j hq hq]
       ext t2
       grind
     . rw[?xZ,D9,?b5,?R6,show ?rT from ?qF,show ?a0I q j from ?a56 e3];omega
 . by_cases e4:i=q
   . subst e4;rw[blend_row_q];by_cases e2:j=p
     . subst e2;rw[?jT,Gv,D9,D9,?OJ,?b5,?SO,?vE]
       ext t2
       grind
     . by_cases e3:j=i
       . subst e3;rw[blend_row_q,Gv,D9,D9,D p p hp hp,D j p hi hp,D p j hp hi,?wJ]
         ext t2
         grind
       . rw[?xZ,D9,D p j hp hj,?b5,show ?a0I p j from ?qF,show ?rT from ?a56 e3];omega
   . rw[?BG e1 e4];by_cases e2:j=p
     . subst e2;rw[?jT,Gv,?b5,D i q hi hq,show ?rT from ?aX,show ?a0I i q from ?yL];omega
     . by_cases e3:j=q
       . subst e3;rw[blend_row_q,Gv,?QV,?b5,?SF,show ?rT from ?yL];omega
       . rw[?xZ];exact ?b5
def mvI(i s r:Nat):Nat:=if r<s then r else if r=s then i else if ?c8 then r-1 else r
theorem move_row(R:Mat)(i s r:Nat):?Q R i s r=R (?uV):=by
 funext c
 unfold moveR mvI;split
 . rfl
 . split
   . rfl
   . split<;>rfl
theorem F5.move{n w i s:Nat}[?n0][?jI]:?a3G ?iM (?Q B i s):=fun x y hx hy=>by
 rw[Y7,move_row,move_row];have l:∀r,r<n->?uV<n:=fun r hr=>?AN
 have:=h _ _ (l x hx) (l y hy);rw[Y7]at this;rw[this]
 have inj:(mvI i s x=mvI i s y)↔x=y:=by
  constructor
  . intro e;unfold mvI at e;by_cases a1:x<s<;>by_cases a2:x=s<;>by_cases a3:x<=i<;>by_cases b1:y<s<;>by_cases b2:y=s<;>by_cases b3:y<=i<;>simp only[a1,a2,a3,b1,b2,b3,if_true,if_false]at e<;>first | omega | (subst_vars;simp_all;try omega)
  . intro e;rw[e]
 by_cases e:x=y
 . rw[?bG,?m (inj.mpr e)]
 . rw[?c9,?f fun z=>e (inj.mp z)]
structure Good(n W w lo:Nat)(R B R' B':Mat):Prop where
 eqv:∀m,lo<=m->OF W m R R'
 det:∀m,lo<=m->Fs m R R'
 pt:∀a b,?a3U B' R'
 dual:?R1->?a3G R' B'
 rest:∀r c,lo<=r->?RO
 restB:∀r c,lo<=r->B' r c=B r c
theorem Good.refl(n W w lo:Nat)[?T]:?a0M R B:=⟨fun m _=>OF.refl W m R,fun m _=>Fs.refl m R,?hG,id,?iO,?iO⟩
theorem Good.trans[?tX]{R B R' B' S C:Mat}(h1:?xT)(h2:?aW n W w lo R' B' S C):?a0M S C :=
 ⟨?a43 h1.eqv h2.eqv,?a43 h1.det h2.det,fun a b=>(h2.pt a b).trans (h1.pt a b),fun d=>h2.dual (h1.dual d),?a2V h2.rest h1.rest,?a2V h2.restB h1.restB⟩
theorem Good.mono{n W w lo lo':Nat}[?tT](h:?xT)(hl:lo<=lo'):?aW n W w lo' R B R' B':=⟨?a3A h.eqv m,?a3A h.det m,h.pt,h.dual,fun r c hr=>h.rest r c O9m,fun r c hr=>h.restB r c O9m⟩
theorem Good.add{n W w lo p q:Nat}[?T][?ZX](k:Int):?a0M ?g3 (?q B q p (-k)) :=
 ⟨?a0Y VN k,?a0Y vO k,fun a b=>IB B R O9m O9m ne k a b,fun d=>d.add O9m O9m ne k,?PJ,?PJ⟩
theorem Good.neg{n W w lo p:Nat}[?T](hp:p<lo)(hn:?q1):?a0M ?i4 (G9 B p) :=
 ⟨?a3A UO R,?a3A uP R,fun a b=>YN B R a b,fun d=>d.neg O9m,?N8,?N8⟩
theorem Good.blend{n W w lo p q:Nat}[?T][?ZX][?tF]:?a0M ?lH (?a50 a) :=
 ⟨?a0Y NW h,?a0Y nX h,fun x y=>FF B R O9m O9m ne h x y,fun e=>e.blend O9m O9m ne h,?HX,?HX⟩
theorem Good.move{n W w lo i s:Nat}[?T](hi:i<lo)(hs:s<=i)(hn:?q1):?a0M ?iM (?Q B i s) :=
 ⟨fun m hm=>qC R O9m hs,fun m hm=>FQ (i-s) R O9m O9m,fun a b=>uG B R O9m hs a b,fun d=>d.move O9m hs,fun r c hr=>by
  ext jD;ext BW,fun r c hr=>by
  ext jD;ext BW⟩
theorem F5.row{n w i:Nat}[?n0](hi:i<n):∃c,c<n/\?AG≠0:=by
 refine qg5 ?p7;have e:=h i i hi hi;rw[?r]at e;unfold pD at e;rw[?S ?bJ]at e
 . cases e
 . have:?AG=0:=qg5 fun y=>z ⟨c,hc,y⟩;ext cF
theorem KU{x h:Int}{K:Nat}(hh:0<h)(hx:x.natAbs<=K*h.natAbs):?TA<=K:=by
 have e:(h.natAbs:Int)=h:=O9m
 have hx':(x.natAbs:Int)<=?rW*h:=by rw[←e];exact_mod_cast hx
 have u1:x / h<=?rW:=by
  have:x<=?rW*h:=O9m
  exact Int.ediv_le_of_le_mul hh ?F
 have u2:-?rW<=x / h:=by
  refine(Int.le_ediv_iff_mul_le hh).mpr ?_;rw[qn8];omega
 omega
structure Part(R:Mat)[?H](f m:Nat):Prop where
 inc:∀j k,?jB->j<k->k<m->?oO
 zero:∀j c,?jB->j<m->?z6
 pos:∀j,?jB->j<m->?sT
 red:∀k j,f<=k->k<j->j<m->?xE
structure OE(n W w lo:Nat)[?T][?H](p f m j μ:Nat)(R' B':Mat):Prop where
 good:?xT
 same:?WZ
 left:∀c,(∀l,f<=l->l<m->c<t l)->?mM=?cN
 red:∀l,f<=l->l<j->?NA
 rel:∀l,j<=l->l<m->?a5G ?fB ?rL
 ins:∀W',∃v:?j,In W' lo R v/\∀c,?mM=?cN+v c
theorem OE.start[?tX][?d2][?h]{p f m μ:Nat}[?YW]:OE n W w lo R B t p f m f μ R B :=
 ⟨?rI,?iO,?hG,fun l h1 h2=>O9m,fun l h1 h2=>by rw[qi4,qx0,qf7];exact h l h1 h2,fun W'=>⟨?cM,?p9 W' lo R,fun c=>by show ?cN=?cN+0;omega⟩⟩
theorem BV[?gZ]:?q R p q 0=R:=by
 funext r c
 ext jO
 . subst e;rw[Co];omega
 . exact ?y0
theorem OE.step[?tX][?tT][?h]{p f m j μ:Nat}(h:OE n W w lo R B t p f m j μ R' B')(P:?pH)(hf:?jB)(hj:j<m)[?ZR] :
 ?UM<=2 ^ (j-f)*μ/\OE n W w lo R B t p f m ?O μ (?q R' p j (-(?fU))) (?q B' j p (?fU)):=by
 have hh:=P.pos j hf hj;have ne:p≠j:=O9m
 have q1:=KU hh (h.rel j ?g hj);refine(?a4L q1);generalize hq:?fU=q at q1;have rj:∀c,?RF:=fun c=>h.same j c ?fL;refine⟨?s8 ?_,?MX,?bJ,?hO,?hO,fun W'=>?_⟩
 . have:=?UB (n:=n) (W:=W) (w:=w) (lo:=lo) R' B' hp (show j<lo by omega) hn ne ?eM;rw[qn7]at this;ext a1
 . rw[Dc hr];exact h.same r c hr
 . rw[Co,h.left c hc,rj,?BR j c hf hj (hc j hf hj)];simp
 . rw[Co,rj];by_cases e:l=j
   . subst e;have d1:=Int.emod_nonneg (?fB) (?a0G ?gM 0);have d2:=qr1 (?fB) hh;have d3:=Int.mul_ediv_add_emod (?fB) (?gM);rw[hq]at d3;have d4:?gM*q=q*?gM:=?q6;rw[qn8];omega
   . have z:?iH=0:=?BR j _ hf hj (P.inc l j h1 O9m hj);rw[z,qd9,qf1,qd5];exact ?hS l h1 O9m
 . rw[Co,rj];have a:=?a33 h.rel;obtain⟨b1,b2⟩:=P.red j l hf O9m h2;have b:?a5G ?iH ?e3:=O9m
   have c:=qf6 (1*?fB) (-q*?iH);rw[qd5]at c;rw[qd5]
   have d:(-q*?iH).natAbs<=?rL:=by
    rw[qb1,qc7];exact qf5 q1 b
   rw[show j+1-f=(j-f)+1 by omega,qh0];have e:2 ^ (j-f)*2*μ*?e3=?rL+?rL:=?D
   omega
 . obtain⟨v,hv,hc⟩:=h.ins W';refine⟨fun c=>1*v c+?eM*?e8,hv.mix ?R8 1 ?eM,?a2C ?_⟩;rw[Co,hc c,rj]
   grind
def Bits(n W b:Nat)(R:Mat):Prop:=∀r c,r<n->c<W->?iQ<?y
theorem gQ{x y a k:Int}{b c:Nat}(hx:x.natAbs<?y)(hy:y.natAbs<?y)(ha:a.natAbs<?w)(hk:?LG):?RK<2 ^ (b+c+1):=by
 have e:=?TQ;rw[qb1,qb1]at e;have u:a.natAbs*x.natAbs<?qL:=?a2M ha hx
 have v:k.natAbs*y.natAbs<?qL:=?a2M hk hy
 rw[?yW,qh0];omega
theorem Bits.mono{n W b b':Nat}[?n1](hb:b<=b'):?a3Q b' R:=?JU
theorem Bits.add{n W b c p q:Nat}[?n1][?dU][?CD]:?a3Q (b+c+1) ?g3:=fun r x hr hx=>by
 ext jO
 . subst e;rw[Co]
   have h1:(1:Int).natAbs<2 ^ ?aV:=by
    have:1<=?w:=qk5;rw[qh0];show 1<_;omega
   have e1:=qf6 (1*?lB) (k*R q x);rw[qd5,qb1]at e1;rw[qd5];have u:k.natAbs*(R q x).natAbs<?qL:=?a2M hk (h q x hq hx)
   have v:?KO<?qL:=?P6;rw[?yW,qh0];omega
 . rw[Dc e];exact ?P6
theorem Bits.blend{n W b e p q:Nat}[?n1][?aY][?Y6]:?a3Q (b+e+1) (?x R p q x y z u):=fun r c hr hc=>by
 by_cases e1:r=p
 . subst e1;rw[?dB];exact gQ ?hQ (h q c hq hc) hx hy
 . by_cases e2:r=q
   . subst e2;rw[Jj];exact gQ (h p c hp hc) ?hQ hz hu
   . rw[?O3];exact qb3 ?hQ (?pJ)
theorem Bits.neg{n W b p:Nat}[?n1]:?a3Q b ?i4:=fun r c hr hc=>by
 unfold G9;ext jO
 . subst e;rw[Bq,qc7];exact ?pD
 . rw[?g8];exact ?pD
theorem Bits.move{n W b i s:Nat}[?n1][?jI]:?a3Q b ?iM:=fun r c hr hc=>by
 rw[move_row];exact h _ c (?AN) hc
structure Dt[?jC](R0 B0:Mat)[?H](π b:Nat)(spot:Nat)[?T]:Prop where
 good:?vY
 zero:?P2
 pos:?KM
 old:∀j c,spot<=j->j<i->?e8=R0 j c
 pass:∀j c,?k7->c<=t j->?i7
 pv:∀l,spot<=l->l<i->(R i ?s).natAbs<=?P
 gc:∀r c,?c8->G c->?iQ<=2 ^ (?sR)
structure Kd[?jC](R0 B0:Mat)[?H](π b:Nat):Prop where
 hi:i<n
 part:?eC R0 t 0 i
 lt:?TE
 hd:?a1C ?M5 ?P
 rw:∀r c,r<i->G c->?a5G ?x2 ?y
 ri:∀c,G c->(R0 i c).natAbs<=?y
 rp:∀l,l<i->(R0 i ?s).natAbs<=?P
theorem Part.sub{R:Mat}[?h]{f f' m:Nat}(h:?pH)(hf:f<=f'):?eC R t f' m:=⟨fun j k h1=>?cJ j k O9m,fun j c h1=>?aT j c O9m,fun j h1=>?l5,fun k j h1=>?hS k j O9m⟩
theorem Part.congr{R R':Mat}[?h]{f m:Nat}(h:?pH)(e:∀j c,?jB->j<m->?RF):?eC R' t f m :=
 ⟨?cJ,fun j c h1 h2 h3=>by rw[e j c h1 h2];exact ?PC,fun j h1 h2=>by rw[e j _ h1 h2];exact ?Z j h1 h2,fun k j h1 h2 h3=>by rw[e k _ h1 ?c,e j _ ?c h3];exact ?OZ⟩
theorem Dt.start[?aH]{R0 B0:Mat}[?h]{π b:Nat}(h:?vQ):Dt n W w i G R0 B0 t π b 0 R0 B0:=by
 refine⟨?rI,fun j c hj hc=>h.part.zero j c ?aK hj hc,fun j hj=>h.part.pos j ?aK hj,?AK,?nR,fun l _ hl=>h.rp l hl,?eD⟩;have e:?y<=2 ^ (?i2+0*?j2):=?pJ;by_cases z:r=i
 . subst z;exact qa6 (h.ri c hc) e
 . exact qa6 (?a4K h.rw r) e
theorem Dt.skip[?aH][?eU][?h][?n8](h:?z3)(hz:∀c,?jV->?i7):?a19 R B:=by
 refine⟨h.good,?aT,?Z,fun j c hj=>?bU j c O9m,?gH,fun l hl=>h.pv l O9m,fun r c hr hc=>qa6 (?w7) (qe9 ?M ?_)⟩
 . ext n5
   . subst e;exact hz c hc
   . exact ?a4K h.pass j
 . rw[qf8];omega
structure j7[?jC][?T][?H](b p spot μ:Nat)(R' B':Mat):Prop where
 good:?aW n W w ?i R B R' B'
 same:?WZ
 left:∀c,?jV->?mM=?cN
 red:∀l,?dZ->l<i->?NA
 gc:∀c,G c->?UV<=?JI+2 ^ ?c2*μ*?y
structure aN[?jC][?T][?H](b p spot μ j:Nat)(R' B':Mat):Prop where
 s:OE n W w ?i R B t p ?A i j μ R' B'
 gc:∀c,G c->?UV+μ*?y<=?JI+?uB
theorem aN.start[?aH][?d2][?h][?D7][?BX]:aN n W w i G R B t b p ?d μ ?A R B :=
 ⟨?T1 ?DL,fun c _=>by rw[qi4,qx0,qf7];ext dS⟩
theorem aN.step[?aH][?tT][?h]{b p spot μ j:Nat}(h:?a2O j)[?CQ][?C1](hf:spot<j)(hj:j<i)[?CN] :
 ?UM<=?xY/\aN n W w i G R B t b p ?d μ ?O (?q R' p j (-(?fU))) (?q B' j p (?fU)):=by
 obtain⟨q,s⟩:=h.s.step P O9m hj O9m O9m O9m O9m;refine⟨qa6 q (qb6 _ (?pJ)),s,?bJ⟩;have ne:p≠j:=O9m
 rw[Co,?HL j c ?fL];have a:=?IU;have e:=qf6 (1*?mM) (-(?fU)*?e8);rw[qd5,qb1,qc7]at e;rw[qd5];have m:=qf5 q (hG j c hf hj hc);rw[show j+1-?A=(j-?A)+1 by omega,qh0];have z:2 ^ (j-?A)*2*μ*?y=?uB+?uB:=?D
 omega
theorem aN.done[?aH][?tT][?h][?D7](h:?a2O i)(P:?yD):j7 n W w i G R B t b p ?d μ R' B' :=
 ⟨h.s.good,?HL,fun c hc=>h.s.left c fun l h1 h2=>by have:=?a33 P;omega,fun l h1 h2=>?a33 h.s.red,fun c hc=>by have:=?IU;omega⟩
theorem De{a b:Nat}(h:a<=b):2 ^ a<=?y:=?JQ
theorem uR{x y a b:Nat}(hx:x<=2 ^ a)(hy:y<=?y):x*y<=?a4U a b:=by rw[qe1];exact qf5 hx hy
theorem Dt.addPre[?aH][?eU][?h][?n8][?eS][?eY]{q:Int}(hq:?wK) :
 ∀l,?dZ->l<i->(?q R i ?d ?eM i ?s).natAbs<=?lZ*(?q R i ?d ?eM l ?s).natAbs:=fun l h1 h2=>by
 rw[Co,Dc (?a0G l i)];ext XK;have a:=?vR;have e:=qf6 (1*R i ?s) (-q*?S3);rw[qd5,qb1,qc7]at e;rw[qd5];have m:q.natAbs*?IN<=?qW:=qf5 hq O9m;have m2:?P*1<=?qW:=?vJ;rw[qh0];have z:?P*2*?e3=?qW+?qW:=?D
 omega
theorem Dt.metAdd[?aH]{R0 B0 R B R2 B2:Mat}[?h][?n8][?eS][?eY]{q:Int}(hq:?wK)[?tE][?a02]
 (S:j7 n W w i G (?OL) (?NU) t b i ?d (?lZ) R2 B2):?a19 R2 B2:=by
 have ne:i≠spot:=O9m
 have keep:∀r c,r≠i->R2 r c=?bP:=fun r c hr=>by rw[?iI r c hr,Dc hr]
 refine⟨?_,fun j c hj hc=>by rw[?UD];exact ?RB,fun j hj=>by rw[?f2 j _ ?c];exact ?pI,fun j c hj hji=>by rw[?UD];exact ?R9,?gH,?hO,?eD⟩
 . have g:=?UB (n:=n) (W:=W) (w:=w) (lo:=i+1) R B (?a1K i) (?a1K spot) ?c4 ne ?eM;rw[qn7]at g;exact ?VQ S.good
 . have ts:?jV:=by
    ext n5
    . rw[←e];exact hc
    . ext ZH
   rw[S.left c ts,Co];by_cases e:c=?dC
   . rw[e,he,qd5,qn8];omega
   . rw[?WP,?aT ?d c hs ?c];simp
 . obtain⟨a,c⟩:=?a33 S.red;rw[Dc (?a0G l i)]at c;ext YP
 . ext Y0
   rw[zb];generalize hz2:?sR=z;have hzb:?i2<=z:=?V9
   by_cases e:r=i
   . subst e;have a:=S.gc c hc;have g:=?hT r c ?g hc;rw[hz2]at g;have rs:?NW:=?UA
     have e1:=qf6 (1*?bP) (-q*?i6);rw[qd5,qb1,qc7]at e1;rw[Co,qd5]at a;have m1:=uR hq rs
     have m2:2 ^ (r-?A)*?lZ*?y<=?vI:=by
      rw[←qe1,←qe1];exact ?c3
     have m3:?VZ<=?vI:=?c3;have m4:4*?vI=2 ^ z:=?a1T z z
     have m5:2*2 ^ z<=2 ^ (z+π+1):=by rw[show z+π+1=1+(z+π) by omega,qe1];exact qf5 ?M ?bX
     omega
   . rw[?f2 r c e];have g:=?w7;rw[hz2]at g;exact qa6 g ?bX
structure LN(π:Nat)(h0 o0 x y z u:Int):Prop where
 one:x*u-y*z=1
 hd:0<x*h0+y*o0
 ot:z*h0+u*o0=0
 lx:?BQ
 ly:?x8
 lz:z.natAbs<=?P
 lu:u.natAbs<=?P
theorem KH{x y a c:Int}{π h:Nat}(hx:?BQ)(hy:?x8)(ha:a.natAbs<=h)(hc:c.natAbs<=?P)(h1:1<=h):(x*a+y*c).natAbs<=?bB*h:=by
 have e:=qf6 (x*a) (y*c);rw[qb1,qb1]at e;have m1:x.natAbs*a.natAbs<=?o5:=qf5 (qa6 hx ?bX) ha;have m2:y.natAbs*c.natAbs<=?o5:=qa6 (uR hy hc) (by rw[show π+π=2*π by omega];exact qi0 _ h1);rw[qh0];have z:?WV*2*h=?o5+?o5:=?D
 omega
theorem Dt.blendPre[?aH][?eU][?h][?n8][?eS][?eY][?BY] :
 (?a0L ?d)/\(?a0L i):=by
 have ne:?zX:=O9m
 have base:∀l,?dZ->l<i->?IN<=?e3/\1<=?e3:=fun l h1 h2=>by
  ext XK;omega
 refine⟨?hO,?hO⟩
 . rw[?dB,?y9];exact KH e.lx e.ly (?sU).1 (?vR) (?sU).2
 . rw[Jj,?y9];exact KH e.lz e.lu (?sU).1 (?vR) (?sU).2
theorem Dt.metBlend[?aH]{R0 B0 R B R2 B2 R3 B3:Mat}[?h][?n8][?eS][?eY][?BY][?tE]
 (S1:j7 n W w i G (?zS) (?x B ?d i u (-z) (-y) x) t b ?d ?d (?bB) R2 B2) (S2:j7 n W w i G R2 B2 t b i ?d (?bB) R3 B3):?a19 R3 B3:=by
 have ne:?zX:=O9m
 have keep:∀r c,r≠i->?ON->R3 r c=?bP:=fun r c h1 h2=>by rw[S2.same r c h1,?k9 r c h2,Ec h2 h1]
 have rs:∀c,R3 ?d c=R2 ?d c:=fun c=>S2.same ?d c ne;have r2i:∀c,R2 i c=z*?i6+u*?fG:=fun c=>by rw[?k9 i c (fun w=>ne w.symm),Jj]
 have gz:∀c,c<?dC->?i6=0:=fun c hc=>?aT ?d c hs hc;refine⟨?_,?gH,?a4,fun j c hj hji=>by rw[?f2 j c ?c ?c];exact ?R9,?gH,?hO,?eD⟩
 . have g:=Good.blend (n:=n) (W:=W) (w:=w) (lo:=i+1) R B (?a1K spot) (?a1K i) ?c4 ne e.one;exact(?VQ S1.good).trans S2.good
 . by_cases e1:?iP
   . subst e1;rw[rs,S1.left c ?c,?dB,gz c hc,hz c hc];simp
   . rw[?f2 j c ?c e1];exact ?RB
 . by_cases e1:?iP
   . subst e1;rw[rs,S1.left _ ?g,?dB];exact e.hd
   . rw[?f2 j _ ?c e1];exact ?pI
 . have ts:?jV:=by
    by_cases e1:?iP
    . rw[←e1];exact hc
    . ext ZH
   rw[S2.left c ts,r2i];by_cases e1:c=?dC
   . rw[e1];exact e.ot
   . rw[?WP,gz c ?c];simp
 . obtain⟨a,c⟩:=?a33 S2.red;rw[?M8,?y9]at c;ext YP
 . ext Y0
   rw[zb];have g0:=?a4K ?hT ?d;have gi:=?hT i c ?g hc;have gr:=?w7;generalize hz2:?sR=zz at g0 gi gr;have hzb:?i2<=zz:=?V9
   have rsb:?NW:=?UA
   have bnd:∀{x y:Int},?BQ->?x8->(x*?i6+y*?fG).natAbs+2 ^ ?c2*?bB*?y<=2 ^ (zz+π+1):=fun {x y} hx hy=>by
    have e1:=qf6 (x*?i6) (y*?fG);rw[qb1,qb1]at e1;have m1:=uR hx rsb;have m2:=uR hy gi
    have m3:2 ^ ?c2*?bB*?y<=?AF:=by
     rw[←qe1,←qe1];exact ?c3
    have m4:?VZ<=?AF:=?c3;have m5:4*?AF=2 ^ zz:=?a1T zz zz
    have m6:2 ^ zz<=?a4U π zz:=?c3;have m7:2 ^ (zz+π+1)=2*?a4U π zz:=by rw[show zz+π+1=1+(π+zz) by omega,qe1,Nat.pow_one]
    omega
   by_cases e1:r=i
   . subst e1;have a:=S2.gc c hc;rw[r2i]at a;exact qa6 a (bnd e.lz e.lu)
   . by_cases e2:?AO
     . subst e2;have a:=S1.gc c hc;rw[?dB]at a;rw[rs];exact qa6 a (bnd e.lx e.ly)
     . rw[?f2 r c e1 e2];exact qa6 gr ?bX
def insT[?H](s st:Nat):?u:=fun r=>if r<s then t r else if r=s then st else t ?iU
structure VS[?jC](R0 B0:Mat)(t1:?u)(Y:Nat)[?T]:Prop where
 good:?vY
 s0:Jc ?i R t1
 lt:∀j,?cV->t1 j<W
 pg:∀j,?cV->G (t1 j)
 gc:∀r c,?c8->G c->?iQ<=?s4
theorem Dt.ins[?aH][?eU][?h]{π b spot st:Nat}[?eS][?XT] :
 VS n W w i G R0 B0 ?cT ?g0 (?EI) (?VE):=by
 have row:∀c,?FU=?fG:=fun c=>by ext jD;ext t8
 have lo:∀r c,r<spot->?rG=?bP:=fun r c hr=>by ext jD;rw[?uG]
 have up:∀r c,?j0->?c8->?rG=R ?iU c:=fun r c hr hi=>by ext jD;rw[?n,?n,?zY]
 have gm:?aW n W w ?i R0 B0 ?pV (?z9):=?s8 (Good.move R B O9m hs ?c4)
 have tl:∀j,?k7->t j<st:=fun j hj=>by
  refine qi8 fun z=>h1 (h.pass j st hj z)
 have inc:∀j k,j<k->k<i+1->?l3<?g1 t ?d st k:=fun j k hjk hk=>by
  unfold insT;by_cases a1:?k7
  . rw[?qV];by_cases b1:k<spot
    . rw[?m b1];exact ?hA j k ?aK hjk O9m
    . rw[?f b1];by_cases b2:k=spot
      . rw[?m b2];exact tl j a1
      . rw[?f b2];exact ?a28 j
  . rw[?sE,?f (show ¬k<spot by omega),?f (show ¬k=spot by omega)];by_cases a2:?iP
    . rw[?yT];have e:=hex O9m;by_cases e2:k-1=spot
      . rw[e2];exact e
      . exact qu5 e (?a28 ?d)
    . rw[?A3];exact ?a28 ?hK
 have zero:∀j c,j<i+1->c<?l3->?a4T j c=0:=fun j c hj hc=>by
  unfold insT at hc;by_cases a1:?k7
  . rw[?qV]at hc;rw[lo j c a1];exact ?a4K ?aT j
  . rw[?sE]at hc;by_cases a2:?iP
    . rw[?yT]at hc;rw[a2,row];exact h0 c hc
    . rw[?A3]at hc;rw[up j c ?c ?c];exact ?a4K ?aT ?hK
 have Al8:∀j,j<i+1->j≠spot->0<?a4T j (?l3):=fun j hj hne=>by
  unfold insT;by_cases a1:?k7
  . rw[?qV,lo j _ a1];exact ?l5
  . rw[?sE,?uU,up j _ ?c ?c];exact ?Z ?hK O9m
 have ts:?g1 t ?d st ?d=st:=?NO
 have bd:∀r c,?c8->G c->(?rG).natAbs<=2 ^ ?g0:=fun r c hr hc=>by
  rw[move_row]
  have lm:mvI i ?d r<=i:=by
   unfold mvI;by_cases a1:r<spot
   . rw[?qV];omega
   . rw[?sE];by_cases a2:?AO
     . rw[?yT];omega
     . rw[?A3,?uG];omega
  refine qa6 (?hT _ c lm hc) (De ?_);have:=qb6 ?j2 hs;omega
 have lt:∀j,?cV->?l3<W:=fun j hj=>by
  unfold insT;split
  . exact H.lt j O9m
  . split
    . exact hW
    . exact H.lt ?hK O9m
 have pg:∀j,?cV->G (?l3):=fun j hj=>by
  unfold insT;split
  . exact hpg j O9m
  . split
    . exact hG
    . exact hpg ?hK O9m
 by_cases neg:?l8
 . rw[?m neg,?m neg];have nr:∀c,G9 ?pV ?d ?d c=- ?FU:=fun c=>Bq ..;have nn:∀r c,?ON->G9 ?pV ?d r c=?rG:=fun r c hr=>Bv hr c;refine⟨gm.trans (Good.neg _ _ O9m ?c4),⟨inc,?gH,?a4⟩,lt,pg,?eD⟩
   . ext n5
     . have z:=?GX;rw[e]at z ⊢;rw[nr,z];rfl
     . rw[nn j c e];exact ?GX
   . ext n5
     . rw[e,nr,ts];omega
     . rw[nn j _ e];exact ?NQ
   . by_cases e:?AO
     . have z:=?PB;rw[e]at z ⊢;rw[nr,qc7];exact z
     . rw[nn r c e];exact ?PB
 . rw[?f neg,?f neg];refine⟨gm,⟨inc,zero,?a4⟩,lt,pg,bd⟩;ext n5
   . rw[e,ts];have:?DO≠0:=by rw[row];exact h1
     omega
   . exact ?NQ
structure Pd(n W w i:Nat)(R0 B0:Mat)[?H](k:Nat)[?T]:Prop where
 good:?vY
 s0:?S4
 old:∀r c,r<k->?bP=?x2
 red:∀r j,k<=r->r<j->?cV->0<=R r ?I/\R r ?I<?aB
 hd:∀j,?cV->?aB=?M5
theorem Pd.start{n W w i:Nat}[?d2][?h](h:?S4):Pd n W w i R B t ?i R B:=⟨?rI,h,?iO,fun r j h1 h2 h3=>O9m,?hG⟩
theorem Pd.part{n W w i:Nat}[?eU][?h]{k:Nat}(h:Pd n W w i R0 B0 t k R B):?eC R t k ?i:=⟨fun j l _ h1 h2=>?y6 j l h1 h2,fun j c _ h1 h2=>?R4 j c h1 h2,fun j _ h1=>?LZ j h1,fun r j h1 h2 h3=>?hS r j h1 h2 O9m⟩
theorem Pd.next{n W w i:Nat}{R0 B0 R B R' B':Mat}[?h]{k μ:Nat}(h:Pd n W w i R0 B0 t ?c6 R B)(hk:k<=i)(S:OE n W w ?i R B t k ?c6 ?i ?i μ R' B'):Pd n W w i R0 B0 t k R' B':=by
 have tl:∀c,c<=t k->R' k c=?hZ:=fun c hc=>S.left c fun l h1 h2=>by have:=?y6 k l O9m h2;omega
 refine⟨?s8 S.good,⟨?y6,?gH,?a4⟩,?MX,fun r j h1 h2 h3=>?_,?a4⟩
 . ext bE
   . subst e;rw[tl c ?c];exact ?QT
   . rw[?iI j c e];exact ?QT
 . ext bE
   . subst e;rw[?RD];exact ?WI
   . rw[?GW];exact ?WI
 . rw[?iI r c ?c];exact ?bU r c O9m
 . rw[?iI j _ (?a0G j k)];by_cases e:r=k
   . subst e;exact S.red j O9m O9m
   . rw[?iI r _ e];exact ?hS r j O9m h2 h3
 . ext bE
   . subst e;rw[?RD];exact ?FR
   . rw[?GW];exact ?FR
structure Dx[?jC](M B0:Mat)[?H][?T]:Prop where
 good:?a46 i M
 st:Di W i R t
 pg:?LA
theorem Dx.start(n W w:Nat)(G:?aN)(M B0:Mat)[?H]:Dx n W w 0 G M B0 t M B0:=⟨?rI,⟨?i5,fun j k _ hk=>O9m,?nR,?i5,fun k j _ hj=>O9m⟩,?i5⟩
theorem Dx.next[?aH]{M B0 R B R1 B1 R2 B2:Mat}{t t1:?u}{Y:Nat}[?gV](I:VS n W w i G R B t1 Y R1 B1)(D:Pd n W w i R1 B1 t1 0 R2 B2):Dx n W w ?i G M B0 t1 R2 B2 :=
 ⟨((h.good.mono O9m).trans I.good).trans D.good,⟨?a2E I.lt,D.s0.inc,D.s0.zero,?F8,fun k j h1 h2=>D.red k j ?aK h1 O9m⟩,?a2E I.pg⟩
theorem Dx.rows{n W w:Nat}[?bR][?h][?CK](hw:w<=W):Ew n w M R:=by
 have e:=?QP;have cut:∀{S:Mat}{v:?j},In W n S v->?a3F S v:=fun⟨x,hx⟩=>⟨x,fun c hc=>hx c O9m⟩
 refine⟨fun i hi=>cut (e.1 i hi),fun i hi=>cut (e.2 i hi),?_⟩
 obtain⟨r,hr,h1,h2⟩:?TF:=by
  have:?J8:=by
   intro m
   induction m with
   | zero=>ext YU
   | succ m ih =>
     ext YY
     . have hrm:r=m:=by
        ext Z4;have:=?mQ r m y O9m;omega
       exact⟨m+1,?iB,fun j hj=>by
        by_cases q:j=m
        . rw[q];exact z
        . exact b j O9m,?v6⟩
     . exact⟨r,O9m,b,fun j h1 h2=>by
        by_cases q:j=m
        . rw[q];omega
        . exact ?RZ⟩
  exact ?SV
 exact⟨r,t,hr,?QQ,?LQ⟩
def unit(e:Int)(j:Nat):?j:=fun c=>if c=j then e else 0
noncomputable abbrev tr(T:Mat):Mat:=?UF
structure Jd(n w r:Nat)(e:Int)(T:Mat):Prop where
 rn:?b3
 rw:?fA
 row0:?EH
 col0:?VW
 rows:?DA
 cols:?NE
theorem Jd.flip[?tG](h:?qO):Jd w n r e ?d7:=⟨h.rw,h.rn,fun i c h1 h2 h3=>?wC c i h3 h1 h2,fun i c h1 h2 h3=>h.row0 c i h2 h3 h1,h.cols,h.rows⟩
theorem Tj{n w r r':Nat}{e:Int}{T:Mat}[?h](he:0<e)(hr:?fA)(hr':r'<=n)(hst:Di w r' T t)(hz:∀i c,r'<=i->?MC)[?YM] :
 r'=r/\(?v4)/\?s7:=by
 have tl:∀j,j<r'->t j<r:=fun j hj=>by
  ext gY;have p:=?qD;rw[hc j ?I ?c z (?a4J ?eK)]at p;omega
 have main:∀j,j<=r->j<=r'/\(∀k,k<j->?sA)/\∀k,k<j->?aE∣e:=by
  intro j
  induction j with
  | zero=>intro _;exact⟨?aG,?w5,?w5⟩
  | succ j ih =>
    intro hj;obtain⟨a,b,c⟩:=?cS;obtain⟨x,hx⟩:=(Lu j O9m).sub hr' hz;have v0:∀k,k<j->?aR e j ?a6=0:=fun k hk=>by rw[b k hk];exact ?f O9m
    obtain⟨x0,x1⟩:=?A7 hx j a v0;have ej:?uF=e:=?r
    have lt:j<r':=by
     ext gY
     have:?uF=0:=by
      rw[?TS];exact ?a3S ?c
     omega
    have tj:t j=j:=by
     refine qi6 ?eI (?m3 j lt)
     have:?uF=0:=by
      rw[?TS];refine ?S ?s2;by_cases e1:k<j
      . rw[x0 k e1];simp
      . rw[?gR k j hk (qb3 z (?HF j k ?c hk))];simp
     omega
    have d:=x1 lt;rw[tj,ej]at d;refine⟨lt,?s2,?s2⟩
    . by_cases e1:k=j
      . rw[e1];exact tj
      . exact b k O9m
    . by_cases e1:k=j
      . rw[e1];exact⟨x j,by rw[d,qf3]⟩
      . exact c k O9m
 obtain⟨a,b,c⟩:=main r ?g;refine⟨qi6 ?eI a,b,c⟩;have:=tl r z;have:=?m3 r z;omega
theorem Yg[?tG][?h](iT:?b3)(hrw:?fA)[?ZB][?YM]:?NE:=by
 have ch:∀j,∃x:?j,j<r->∀c,c<w->?HM=?a0E ?c1 r:=fun j=>by
  by_cases hj:j<r
  . obtain⟨x,hx⟩:=(?a4J Lu).sub iT hz;exact ?EZ
  . exact⟨?cM,fun z=>?kX z hj⟩
 obtain⟨X,hX⟩:∃X:?dD,∀j,j<r->∀c,c<w->?HM=Al (fun k=>X j k*?c1) r:=Classical.axiomOfChoice ch
 have key:∀i,i<r->∀j,j<r->Al (fun c=>?fT*X c j) r=?VY:=by
  intro i hi
  have hz0:∀c,c<w->(?QD) c=?E8:=by
   intro c hcw
   have e1:?E8=Al (fun j=>Al (fun d=>?AP*?gP) r+?C*((?uT)*(e*?gP))) r:=by
    refine Ak fun j _=>?_;rw[Int.sub_mul,←En];by_cases z:i=j
    . subst z;rw[?r,?r];omega
    . rw[?eH,?f fun y=>z y.symm];omega
   rw[e1,C4,Bg,Dj (fun j=>e*?gP) i r,?zY,Cl]
   have e2:Al (fun d=>Al (fun j=>?AP*?gP) r) r=Al (fun d=>T i d*?aR e d c) r:=by
    refine Ak ?vW;rw[hX d hd c hcw,←Bg];exact Ak fun j _=>qf2 ..
   rw[e2];show ?dH=_;by_cases hcr:c<r
   . rw[?a2 (j:=c) hcr fun d hd hne=>by show ?a3Y 0;rw[?f ?vH];simp];show ?dH=?fT*(if c=c then e else 0)+-1*(e*?fT);rw[?r,qf3];omega
   . rw[?S fun d hd=>by show ?a3Y 0;ext d0;simp,hc i c ?c ?c hcw];simp
  obtain⟨a,_⟩:=?A7 hz0 r ?g ?hG;intro j hj;have:=?a4J a;omega
 intro i hi;refine⟨fun c=>if c<r then X c i else 0,fun c hcn=>?_⟩;show ?aR e i c=?JJ
 have e1:?JJ=?UK:=by
  have:∀m,r<=m->m<=w->?a1Q m=?UK:=by
   intro m
   induction m with
   | zero =>
     intro h1 _;have:r=0:=O9m
     subst this;rfl
   | succ m ih =>
     intro h1 h2;by_cases q:r=m+1
     . subst q;refine ?vK;rw[?m hk,qf3]
     . show Al _ m+(if m<r then X m i else 0)*T c m=_;rw[?Q5,?n];simp
  exact ?F w hrw ?g
 rw[e1];by_cases hcr:c<r
 . rw[key c hcr i hi];rfl
 . rw[?S fun k hk=>by rw[hz c k ?c hcn ?c];simp];exact ?f O9m
theorem Ew.square{n w r:Nat}{e:Int}[?CP][?tH]:Jd n w r e T'/\∃t,?m5/\(?v4)/\∀j,j<r->T' j j∣e:=by
 obtain⟨r',t,hr',hst,hz⟩:=s.st
 have hc:∀i c,i<n->r<=c->?NJ:=fun i c hi h1 h2=>by
  obtain⟨x,hx⟩:=s.fwd i hi;rw[hx c h2];exact ?S fun k hk=>by rw[?wC k c hk h1 h2];simp
 have Lu:∀j,j<r->?a3F T' ?UJ:=fun j hj=>(?a4J h.rows).trans s.bwd;obtain⟨e1,e2,e3⟩:=Tj he h.rw hr' hst hz hc Lu;subst e1;exact⟨⟨h.rn,h.rw,hz,hc,Lu,Yg h.rn h.rw hst hz hc Lu⟩,t,hst,e2,e3⟩
theorem LY[?tG][?h][?tH](hst:?DX)(ht:?v4)(hd:?s7){i c:Nat}(hi:i<n)(hc:c<w):?UE:=by
 by_cases a:i<r
 . by_cases b:c<r
   . have l:=qm8 he (hd c b);rcases ql2 i c with z | z | z
     . have:=hst.red i c z b;rw[ht c b]at this;omega
     . subst z;have:=?oA i a;rw[ht i a]at this;omega
     . rw[?gR i c a (by rw[ht i a];exact z)];omega
   . rw[?wC i c hi ?c hc];omega
 . rw[h.row0 i c ?c hi hc];omega
theorem IW{n w r:Nat}{T:Mat}[?h](iT:?b3)[?ZB]:∀i,i<r->?a53 (?BN):=by
 have main:∀m i,i<m->m<=r->?a53 (?mT):=by
  intro m
  induction m with
  | zero=>intro i hi;omega
  | succ m ih =>
    intro i hi hm;by_cases q:i<m
    . exact ih i q O9m
    have qi:i=m:=O9m
    subst qi
    have up:∀k,k<=i->In n w ?d7 (fun d=>?a1F k):=by
     intro k
     induction k with
     | zero=>intro _;exact ?p9 ..
     | succ k ihk =>
       intro hk;have hk2:=ih k O9m O9m
       obtain⟨g,hg⟩:∃g,?h7=?zV*g:=by
        have:∀m,k+1<=m->∃g,?RM=?zV*g:=by
         intro m
         induction m with
         | zero=>intro h;omega
         | succ m ihm =>
           intro h;by_cases z:k+1=m+1
           . exact ?FH
           . ext XW
        exact ?HH
       refine((ihk O9m).mix hk2 1 (T k ?cL*g)).congr ?MZ;show 1*Al _ k+?a4F g ?zV=Al _ k+?a4F ?h7 1;rw[hg];by_cases z:d=k
       . rw[?d5,?d5];grind
       . rw[?eH,?eH];omega
    have col:In n w ?d7 (tr T ?cL):=?K (?eK i O9m);refine(col.mix (up i ?g) (?h7) ?C).congr ?vW;show ?h7*T d ?cL+-1*?a1F i=?y3;by_cases z:d<i
    . rw[?a2 (j:=d) z fun l hl hne=>by rw[?f ?vH];simp,?r];rw[show ?y3=0 from ?n]
      grind
    . rw[?S fun l hl=>by ext d0;simp];by_cases z2:d=i
      . subst z2;rw[show ?aR (?M7) d d=?M7 from ?r];show _=?k ?f8 d*T d (t d);omega
      . rw[show ?y3=0 from ?f z2]
        have:T d ?cL=0:=by
         by_cases z3:d<r
         . exact ?DR z3 O9m
         . exact hz d _ O9m hd (?eK i O9m)
        ext cF
 intro i hi
 obtain⟨g,hg⟩:∃g,?BN=?mT*g:=by
  have:∀m,i+1<=m->∃g,?RM=?mT*g:=by
   intro m
   induction m with
   | zero=>intro h;omega
   | succ m ihm =>
     intro h;by_cases z:i+1=m+1
     . exact ?FH
     . ext XW
  exact ?F r hi
 refine((main r i hi ?g).mix (?p9 ..) g 0).congr ?MZ;show g*(if d=i then ?mT else 0)+0*0=if d=i then ?BN else 0
 by_cases z:d=i
 . rw[?d5,?d5,hg];grind
 . rw[?eH,?eH];omega
theorem Wh.square[?f0]{T T' No:Mat}{r:Nat}[?h][?Y5]:?fA/\Jd n w r (?j4) No/\∃u,Di n r ?o1 u/\(?J9)/\∀j,j<r->No j j∣ ?j4:=by
 ext YD;obtain⟨q,u,hq,aC,qQ⟩:=s2.st
 have hrw:?fA:=by
  by_cases z:r=0
  . omega
  . have:=?m3 ?iU O9m;have:=?eK ?iU O9m;omega
 have hc:∀i c,i<w->r<=c->c<n->tr No i c=0:=fun i c hi h1 h2=>by
  obtain⟨x,hx⟩:=s2.fwd i hi;rw[hx c h2];exact ?S fun k hk=>by rw[show tr T' k c=0 from hz c k h1 h2 hk];simp
 have Lu:∀j,j<r->In n w ?o1 (?aR (?j4) j):=fun j hj=>(IW hr hst hz j hj).trans ?oM;obtain⟨e1,e2,e3⟩:=Tj he hr hq aC qQ hc Lu;subst e1;have sq:Jd w n q (?k (?a11 T' ?I) q) ?o1:=⟨hrw,hr,qQ,hc,Lu,Yg hrw hr aC qQ hc Lu⟩
 exact⟨hrw,?w0,u,aC,e2,e3⟩
theorem OT:∀{n:Nat}{A:Mat},(∀r c,r<n->c<n->?WC<=1)->(∀c r r',c<n->r<n->r'<n->?iT≠0->A r' c≠0->r=r')->?FN<=1
 | 0,_,_,_=>by simp[det]
 | n+1,A,h1,h2=>by
   show ?O6<=1;by_cases e:∃r,r<n+1/\A r 0≠0
   . obtain⟨r,hr,hne⟩:=e
     rw[?a2 (j:=r) hr fun k hk hkr=>by
      have:A k 0=0:=qg5 fun z=>hkr (h2 0 k r ?c hk hr z hne);ext cF]
     rw[qb1,qb1,Xw,qf7]
     have ih:=OT (n:=n) (A:=Gq A r) (fun x c hx hc=>h1 _ _ ?bF O9m) fun c x x' hc hx hx' a b=>by
      have:=h2 ?aV (if x<r then x else x+1) (if x'<r then x' else x'+1) O9m ?bF ?bF a b;split at this<;>split at this<;>omega
     exact qa6 (qf5 (h1 r 0 hr O9m) ih) ?M
   . rw[?S fun k hk=>by
      have:A k 0=0:=qg5 fun z=>e ⟨k,hk,z⟩;ext cF]
     decide
theorem dN{n p:Nat}(A:Mat)[?dU](a:?j)(U:Mat):∀m,?a0J ?OI=?yE
 | 0=>by
   show ?a52 (B5 A p (?a2C ?dH))=0;exact Ul hp fun c _=>Bq ..
 | m+1=>by
   have e:(fun c=>Al (fun k=>a k*?f1) ?lD)=fun c=>1*(?OI) c+?m0:=?aD fun c=>by
    show ?xN+?m0=1*?xN+?m0;omega
   rw[e,Fl A _ _ 1 (a m) hp,dN A hp a U m];show 1*?yE+a m*?a0J (U m)=?yE+a m*?a0J (U m);rw[qd5]
def Xc(s:?u):Mat:=fun r l=>if s l=r then 1 else 0
def EX(T:Mat)(s:?u)(k:Nat):Mat:=fun r l=>if r<k then Xc s r l else T r ?b7
theorem lZ[?C0]{k:Nat}(hk:k<i):?TP=?aE*?a5F (EX T s ?c6):=by
 have e0:?wP=B5 (?wP) k fun c=>Al (fun j=>T k j*?q3) ?c6:=by
  funext r c
  by_cases z:r=k
  . subst z;rw[Bq];show ?a4H r;ext d0;by_cases y:s c<r+1
    . rw[?a2 (j:=s c) y fun j _ hne=>by
       have:?q3=0:=?BK;ext cF]
      have:Xc s ?fQ c=1:=?r;ext cF
    . rw[?S fun j hj=>by
       have:?q3=0:=?n;ext cF]
      exact h r ?fQ hk O9m
  . rw[Bv z]
 ext YR
 . congr 1
   refine Dg ?eD;by_cases z:r=k
   . subst z;rw[Bq];show _=if r<r+1 then ?iY else ?hY
     ext n2
   . rw[Bv z];show(if r<k then ?iY else ?hY)=if r<k+1 then ?iY else ?hY
     by_cases y:r<k
     . ext tA
     . ext t9
 . ext YA;show(if j<k then ?q3 else T j ?fQ)=_;ext n2
theorem jW[?C0]:∀k,k<=i->?a5F (?W1)=?zO*?TP
 | 0,_=>by
   show _=1*?a5F (EX T s 0);rw[qd5]
   exact Dg fun r c hr hc=>by
    show _=if r<0 then ?iY else ?hY
    ext d0
 | k+1,hk=>by
   rw[jW h s k ?c,lZ h s ?c];ext ZD
theorem XY[?C0]:(?wB).natAbs<=(?VT).natAbs:=by
 rw[jW h s i ?g,qb1]
 have e:?a1E (EX T s i) 1:=by
  have k:∀r c,r<i->EX T s i r c=if s c=r then 1 else 0:=fun r c hr=>by
   show ?a4H i;rw[?uG];rfl
  refine OT (?eD) fun c r r' hc hr hr' a b=>?_
  . rw[?ET];split<;>decide
  . rw[?ET]at a;rw[k r' c hr']at b;split at a
    . split at b
      . omega
      . exact ?kX rfl b
    . exact ?kX rfl a
 exact qa6 (qe8 _ e) O9m
def Pe(n:Nat)(G:?aN)(M:Mat)(D:Nat):Prop:=∀i,?gK->∀s:?u,(?KE)->(det i (?a26 M)).natAbs<=D
theorem Dx.detsD[?tV][?bR][?h][?tM][?gV](hi:i<=m){s:?u}(hs:?KE):?a1E ?wR D:=by
 rw[h.good.det i ?g s];exact hD i hi s hs
theorem Dx.headD[?tV][?bR][?h][?tM][?gV](hi:i<=m){j:Nat}(hj:j<i):?fM<=D:=by
 have:=VA ?vF (?xM hD hi (s:=t) h.pg) hj;have p:=?QF;omega
theorem Dx.rowD[?tV][?bR][?h][?tM][?gV](hi:i<=m)[?tO]{r c:Nat}(hr:r<i)(hc:G c):?iQ<=i*D:=by
 have:=TM ?vF ?g7 (?K hr) (κ:=1) (D:=D) (wZ c hc) (?a4) fun k hk=>?xM hD hi ?rF
 . rw[qf7]at this;ext a1
 . rw[qf7];rcases ql2 r j with z | z | z
   . obtain⟨a,b⟩:=?rH r j z hj;omega
   . rw[z];ext dS
   . rw[h.st.s0.low hr z];exact ?aG
 . cases l with
   | zero=>exact hc
   | succ l=>exact h.pg _ ?bF
theorem Dx.putD[?tV][?bR][?h][?tM][?gV](hm:i<=m)(hi:i<n)[?tO]{b0 π b:Nat}(hM:∀c,G c->(M i c).natAbs<=?u8)[?ZE]:?O1:=by
 refine⟨hi,?AA,?g7,fun j hj=>qa6 (h.headD hD hm hj) h1,fun r c hr hc=>qa6 (h.rowD hD hm wZ hr hc) h2,?bJ,?rF⟩
 . rw[?s5 i c ?g];exact qa6 (hM c hc) (De h4)
 . rw[?s5 i _ ?g];exact qa6 (hM _ (h.pg l hl)) (De h3)
theorem Jd.free[?tG][?tH]{m:Nat}(hm:m<=r){x:?j}(hx:∀c,c<w->?uR=0):∀k,?OE:=by
 intro l hl;obtain⟨y,hy⟩:=h.cols l O9m;have e1:?L8=0:=?S fun c hc=>by rw[?e9];simp
 have e2:?L8=?a0E ?TU m:=by
  rw[show(fun c=>y c*?uR)=fun c=>?a0E (y c*?c1) m from ?aD fun c=>by
   rw[←Bg];exact ?a45 ?D]
  rw[Cl];refine ?vK;rw[hy k (by have:=h.rn;omega),←Bg]
 rw[e2,?a2 (j:=l) hl fun k _ hne=>by
  have:?TU=0:=?uU;ext cF]at e1
 have:?aR e l l=e:=?r;rw[this]at e1;rcases ?oN e1 with z | z
 . exact z
 . omega
theorem tH[?jM]{e:Int}{T M B0 R B:Mat}[?tH](hM:∀k c,k<n->c<w->M k c=?c1)(hi:i<r)(g:?a46 ?i M)(hW:?AQ)(d:?a3G M B0):∃c,c<w/\?fG≠0:=by
 have rn:=h.rn;refine qg5 ?p7;have z0:∀c,?QC:=fun c hc=>qg5 fun y=>z ⟨c,hc,y⟩;obtain⟨x,hx⟩:=(g.eqv ?i ?g).1 i O9m
 have x0:=h.free he (m:=i+1) O9m (x:=x) fun c hc=>by
  rw[←z0 c hc,?IB];exact Ak fun k hk=>by rw[hM k c ?c hc]
 obtain⟨c,hc,hne⟩:=(g.dual d).row (i:=i) O9m;refine hne ?_;rw[hx ?pX ?c];exact ?a3S hk
structure Rk(n W w r:Nat)(kt:?u)(hd:?j)(M:Mat):Prop where
 zero:∀j c,?aI->j<n->c<?fP->M j c=0
 inc:∀j k,?aI->j<k->k<n->?fP<kt k
 ge:∀j,?aI->j<n->w<=?fP
 lt:∀j,?aI->j<n->?fP<W
 head:∀j,?aI->j<n->M j ?eE=?j3
 pos:∀j,?aI->j<n->0<?j3
 red:∀k j,?aI->k<j->j<n->0<=?AC/\?AC<?j3
structure Ci(n W w r i:Nat)[?ZJ][?H][?T]:Prop where
 st:?MD
 tab:∀j,j<r->j<i->t j<w
 ker:∀j,?aI->j<i->t j=?fP/\?aB=?j3
theorem Ci.start(n W w r:Nat)[?ZJ][?H]:Ci n W w r 0 G M B0 kt hd t M B0:=⟨Dx.start ..,?KL,?KL⟩
theorem Ci.next[?jM][?nE]{M B0 R B R1 B1 R2 B2:Mat}[?cZ]{Y spot st:Nat}[?a01](hi:i<r)(hst:st<w)(hs:?sF)(I:VS n W w i G R B ?cT Y R1 B1)(D:Pd n W w i R1 B1 ?cT 0 R2 B2):?a34 ?cT:=by
 refine⟨h.st.next I D,?nY,?v6⟩;unfold insT;split
 . exact ?PO
 . split
   . exact hst
   . exact ?pQ ?hK O9m O9m
theorem Ci.skip[?jM][?bR][?cZ][?mW](hn:i<n){spot c:Nat}[?eY](hc:?jV):?i7:=by
 rw[?EN];refine ?AZ i c hi hn ?_;have g:=K.ge i hi hn;by_cases z:?j0
 . have:=?pQ ?d z hs;omega
 . have:=(?l1 ?d O9m hs).1;have:=K.inc ?d i O9m hs hn;omega
theorem Q1(R:Mat)(i:Nat):?Q R i i=R:=by
 funext r
 ext jD;by_cases a:r<i
 . rw[?m a]
 . rw[?f a];by_cases b:r=i
   . rw[?m b,b]
   . rw[?f b,?n]
theorem Ci.ins[?jM][?bR][?cZ]{π b:Nat}[?mW](H:?O1)(hG:G ?e0):VS n W w i G R B ?bO ?g0 R B/\?MM:=by
 have all:?MM:=by
  intro spot
  induction spot with
  | zero=>intro _;exact Dt.start H
  | succ s ih=>intro hs;exact(?cS).skip fun c hc=>h.skip K hi ?c4 O9m hc
 refine⟨?_,all⟩;have e:R i ?e0=hd i:=by ext CG;exact ?wT i hi ?c4
 have p:=?oI i hi ?c4;have:=(all i ?g).ins H ?g (st:=kt i) (fun c hc=>by rw[?EN];exact ?AZ i c hi ?c4 hc) O9m (K.lt i hi ?c4) hG h.st.pg (fun z=>O9m);rw[Q1,Q1,?n,?n]at this;ext a1
theorem Ci.nextK[?jM][?nE]{M B0 R B R2 B2:Mat}[?cZ]{Y:Nat}[?mW](hn:i<n)(I:VS n W w i G R B ?bO Y R B)(D:Pd n W w i R B ?bO 0 R2 B2):?a34 ?bO:=by
 ext YK;ext BS
 refine⟨h.st.next I D,fun j h1 h2=>by rw[?SB];exact ?PO,?nY⟩;rw[D.hd j ?c];by_cases z:j=i
 . rw[z,t2];exact⟨rfl,by ext CG;exact ?KK⟩
 . rw[?SB];exact ?l1 j h1 O9m
theorem Ci.done{n W w r:Nat}[?bR][?cZ](K:?AU)(h:?a4Q W M):?a12 W R:=by
 refine⟨?H8,K.inc,K.ge,K.lt,?nY,?oI,?J7⟩
 . rw[←(?S2).1]at h3;exact h.st.st.zero j c h2 h3
 . obtain⟨a,b⟩:=?S2;rw[←a];exact b
 . obtain⟨a,b⟩:=?l1 j h1 h3;rw[←a,←b];exact ?SJ k j h2 h3
def FP(V Z:Mat)(k:Nat):Mat:=fun r l=>if r<k then Z r l else V r l
theorem mL[?YH]{k:Nat}(hk:k<i):?B4=?aE*?a4P ?c6:=by
 have e0:?B4=?a5F (B5 (FP V Z k) k fun c=>Al (fun j=>T k j*Z j c) ?c6):=Dg fun r c hr hc=>by
  by_cases z:r=k
  . subst z;rw[Bq];show(if r<r then ?kK else ?hE)=_;ext d0;exact ?pD
  . rw[Bv z]
 ext YR
 . congr 1
   refine Dg ?eD;by_cases z:r=k
   . subst z;rw[Bq];show _=if r<r+1 then ?kK else ?hE
     ext n2
   . rw[Bv z];show(if r<k then ?kK else ?hE)=if r<k+1 then ?kK else ?hE
     by_cases y:r<k
     . ext tA
     . ext t9
 . ext YA;show(if j<k then Z j c else V j c)=_;ext n2
theorem bY[?YH]:∀k,k<=i->?a5F V=?zO*?B4
 | 0,_=>by
   show _=1*?a4P 0;rw[qd5]
   exact Dg fun r c hr hc=>by
    show _=if r<0 then ?kK else ?hE
    ext d0
 | k+1,hk=>by
   rw[bY h k ?c,mL h ?c];ext ZD
theorem BH{w r:Nat}{U V:Mat}(hw:?fA)(hU:∀k c,k<r->c<k->?f1=0)(hV:∀l,l<r->In w r U (V l))(h0:∀l i,l<r->i<r->l<i->V l i=0):?a51 U r∣ ?MW:=by
 have ch:∀l,∃x:?j,l<r->∀c,c<w->V l c=?a0E ?f1 r:=fun l=>by
  by_cases hl:l<r
  . obtain⟨x,hx⟩:=hV l hl;exact ?EZ
  . exact⟨?cM,fun z=>?kX z hl⟩
 obtain⟨X,hX⟩:∃X:?dD,∀l,l<r->∀c,c<w->V l c=Al (fun k=>X l k*?f1) r:=Classical.axiomOfChoice ch;have e1:det r (tr V)=?MW:=X3 (A:=tr V) fun i l hi hl=>h0 l i O9m hi hl;have e2:=bY (i:=r) (T:=tr U) (V:=tr V) (Z:=tr X) (fun i l hi hl=>?_) r ?g
 . rw[e1]at e2;exact⟨_,e2⟩
 . show V l i=_;rw[hX l hl i ?c]
   have:∀m,m<=r-?i->?WN=Al (fun j=>tr U i j*tr X j l) ?i:=by
    intro m
    induction m with
    | zero=>intro _;exact ?a45 ?q6
    | succ m ih =>
      intro hm;show ?WN+X l ?nL*U ?nL i=_;rw[?jX,hU ?nL i ?c ?c];omega
   have:=?F (r-?i) ?g;rw[show i+1+(r-?i)=r by omega]at this;ext a1
theorem Yz[?B]{n:Nat}(h:?vU):∀m,m<=n->?bT<=?f3:=fun m hm=>by
 have:∀d,m+d<=n->?bT<=?rC:=by
  intro d
  induction d with
  | zero=>intro _;exact ?QJ _
  | succ d ih =>
    intro hd;refine qu8 (?cS) ?_;show ?rC<=?rC*f ?rU;have p:=C8 (n:=m+d) ?gQ;have q:=h ?rU O9m;have:=qm1 (show 1<=f ?rU by omega) (?a2N 0 ?rC);rw[qm4]at this;ext a1
 have:=?F (n-m) O9m;rw[show m+(n-m)=n by omega]at this;ext a1
theorem qG{w r:Nat}{T:Mat}{E:Nat}(hp:?KP)(h:∀i c,i<r->?NG)[?a06]:?PT:=fun i hi s hs=>by
 have t:=XY (i:=i) (T:=?qS) (fun a c ha hac=>by
  show(?HP)=0;by_cases z:c<w
  . ext eX;exact h a c O9m z hac
  . ext cG) s
 have e:(?wB)=det i (?a26 (?qS)):=Dg fun a c ha hc=>(?m ?Q8).symm;rw[e];refine qa6 t ?_;by_cases z:i<=w
 . have e2:?DN=?VT:=by
    have:∀m,m<=w->?VH=?k ?k0 m:=by
     intro m
     induction m with
     | zero=>intro _;rfl
     | succ m ih =>
       intro hm;show _*_=_*_;rw[?jX];show ?a3X _;ext n2
    exact ?F i z
   rw[e2];have a:=Yz (n:=r) (f:=?o8) hp i hi;have b:=C8 (n:=i) (f:=?o8) fun k hk=>?X2;omega
 . have e2:?DN=0:=by
    have:∀m,w<m->?VH=0:=by
     intro m
     induction m with
     | zero=>intro _;omega
     | succ m ih =>
       intro hm;show ?a3X 0;by_cases y:w<m
       . rw[ih y];simp
       . ext d0;simp
    exact ?HH
   rw[e2];exact ?aG
structure Ft(n w r:Nat)(E:Nat)(e:Int)(T:Mat):Prop where
 sq:?qO
 low:∀i c,i<n->?NG
 pos:?KP
 dvd:?s7
 prod:?k ?k0 r<=E
 le:∀i c,i<n->c<w->?UE
 red:∀k j,k<j->j<r->0<=T j k/\T j k<?lQ
theorem gA[?mZ]{T:Mat}{u:?u}(he:0<e)(sq:?qO)(hst:Di n r ?d7 u)(hu:?J9)(hd:?s7)[?a06]:?lK:=by
 refine⟨sq,fun i c hi hc hic=>?_,?a4,hd,hE,fun i c hi hc=>LY he ?w0 hst hu hd hc hi,fun k j hk hj=>by
  have:=hst.red k j hk hj;rw[?a4J hu]at this;ext a1⟩
 . by_cases z:c<r
   . exact ?gR c i z (by rw[hu c z];exact hic)
   . exact sq.col0 i c hi O9m hc
 . have:=?qD;rw[?a4J hu]at this;ext a1
theorem Ew.going[?mZ][?CP](he:0<e)[?jH]:Ft w n r E e (tr T'):=by
 obtain⟨sq,t,hst,ht,hd⟩:=s.square he h.sq;have pos:∀j,j<r->0<T' j j:=fun j hj=>by have:=?qD;rw[?a4J ht]at this;ext a1
 refine gA he ?w0 hst ht hd ?_;have rn:=h.sq.rn;have rw':=h.sq.rw;have d:=BH (w:=w) (r:=r) (U:=T') (V:=T) rw' (?a1Y ?gR ht) (fun l hl=>(s.bwd l O9m).sub rn sq.row0) (fun l i hl hi hli=>?eL l i O9m O9m hli);have p:=C8 (n:=r) (f:=?o8) ?Z;exact qu8 (qm8 p d) ?u3
theorem Wh.going[?mZ][?CO](he:0<e)[?jH]:Ft n w r E e No:=by
 obtain⟨T',s1,s2⟩:=s;exact s2.going he (s1.going he h)
theorem Wh.first{n w r:Nat}{E:Nat}{T T' No:Mat}[?h][?Y5](hE:?j4<=E):Ft n w r E (?j4) No:=by
 obtain⟨hw,sq,u,hu,ZK,hd⟩:=Wh.square (T:=T) hr hst hz s2;ext YD;refine gA he sq hu ZK hd ?_;have d:=BH (w:=n) (r:=r) (U:=tr No) (V:=fun l i=>T' i ?s) hr (?a1Y hu.zero ZK) (fun l hl=>(?oM ?s (?eK l hl)).sub hw sq.flip.row0) (fun l i hl hi hli=>?DR hi hli);exact qu8 (qm8 he d) hE
theorem Ft.dets[?mZ]{T:Mat}[?jH]:?PT:=qG ?Z (fun i c hi=>?eL i c (by have:=h.sq.rn;omega)) ?u3
def nZ(n w r L m:Nat)(T:Mat):Prop:=?mB\/(∃k,k<=r/\?mL/\?LW<=m)\/(∃k,k<r/\?GY/\(r-k-1)*?j1+(?aE).natAbs.log2+1<=m)
theorem Ft.straight[?mZ]{T:Mat}[?jH](c:Nr n w r T):?mB:=fun i j hi hj hne=>by
 by_cases z:i<r
 . exact c.2.2.2.1 i j z hj (?vH)
 . exact h.sq.row0 i j O9m hi hj
theorem log2_lt{a b:Nat}(ha:0<a)(h:a∣b)(hlt:a<b):a.log2<b.log2:=by
 obtain⟨k,hk⟩:=h
 have k2:2<=k:=by
  rcases k with _ | _ | k
  . omega
  . omega
  . omega
 have b2:2*a<=b:=by
  rw[hk,?SS 2 a];exact qe8 _ k2
 have e:?KF=a.log2+1:=Nat.log2_two_mul O9m
 have m:?KF<=b.log2:=by
  rw[Nat.le_log2 ?c];exact ?a4C b2
 omega
theorem nZ.start{n w r L:Nat}{E:Nat}{e:Int}{T:Mat}[?jH]:nZ n w r L (r*?j1) T:=?a3 (?L ⟨0,?aG,?LI,by rw[qw9];ext dS⟩)
theorem Ft.next{n w r L m:Nat}{E:Nat}{e:Int}{T No:Mat}(he:0<e)(hL:?KY)[?jH](s:?RH)(f:?H1)(ns:¬?mB):0<m/\nZ n w r L (m-1) No:=by
 have g:=s.going he h;rcases f with f|⟨k,hk,c,hm⟩|⟨k,hk,c,hm⟩
 . exact ?kX f ns
 . have kr:k<r:=by
    refine Nat.lt_of_le_of_ne hk fun z=>ns ?_;subst z;exact h.straight c
   have e1:?LW=(r-k-1)*?j1+?j1:=by rw[show r-k=(r-k-1)+1 by omega,qf8,qf7,Nat.add_sub_cancel]
   refine ?FQ;obtain⟨c2,q⟩:=s.next c;rcases q with q | q
   . exact ?L q
   . refine ?a3 (?a3 ⟨k,kr,q,?_⟩);have d:=h.dvd k kr;have d2:=g.dvd k kr;have p:=g.pos k kr
     have l:(?lU).natAbs.log2<=L:=by
      refine qa6 ?_ hL;rw[Nat.le_log2 ?c];refine ?a4C ?_;have:=qm8 he d2;omega
     omega
 . refine ?FQ;rcases s.less c with q|⟨q1,q2,q3⟩
   . refine ?a3 (?L ⟨k+1,O9m,q,?_⟩);rw[show r-?c6=r-k-1 by omega];omega
   . refine ?a3 (?a3 ⟨k,hk,q1,?_⟩);have p:=g.pos k hk;have p0:=?vB;have:=log2_lt (a:=(?lU).natAbs) (b:=(?aE).natAbs) O9m (qu7.mpr q2) O9m;omega
universe Lat
namespace Lat
structure EuA[?CJ]:Prop where
 e1:r1=x1*A+y1*B
 e2:r2=x2*A+y2*B
 dt:?lO=1\/?lO=-1
 dv:∀d:Int,d∣r1->d∣r2->d∣A/\d∣B
structure EuR[?CJ]:Prop where
 a:?A1
 rr:0<=r1*r2
 r0:?yY
 xx:x1*x2<=0
 yy:y1*y2<=0
 lx:?TJ
 ly:?GF
theorem jX{u v:Int}(h:0<=u*v):(u+v).natAbs=u.natAbs+v.natAbs:=by
 rcases ?J6 u 0 with z | z | z
 . have:v<=0:=by
    ext gW;have:=?W4 z y;omega
   omega
 . subst z;omega
 . have:0<=v:=by
    ext gW;have:=?T9 z y;omega
   omega
theorem EuR.next_le[?mX][?a09]:?G4:=by
 have r1p:1<=r1.natAbs:=by have:=h.r0;omega
 have hA:A.natAbs=(?MP).natAbs:=by
  have e:(?lO)*A=?MP:=?OP
  rcases h.a.dt with d | d
  . rw[d,qd5]at e;rw[e]
  . rw[d]at e;have:A.natAbs=(-1*A).natAbs:=O9m
    rw[this,e]
 have hB:B.natAbs=(?wA).natAbs:=by
  have e:(?lO)*B=-(?wA):=?OP
  rcases h.a.dt with d | d
  . rw[d,qd5]at e;rw[e,qc7]
  . rw[d]at e;have:B=?wA:=O9m
    rw[this]
 have k1:0<=?KZ:=by
  have:?KZ=(-(y1*y2))*(r1*r2):=?D
  rw[this];exact qk2 (by have:=h.yy;omega) h.rr
 have k2:0<=?WS:=by
  have:?WS=(-(x1*x2))*(r1*r2):=?D
  rw[this];exact qk2 (by have:=h.xx;omega) h.rr
 rw[jX k1,qb1]at hA;rw[jX k2,qb1]at hB;have a1:x2.natAbs*1<=x2.natAbs*r1.natAbs:=?O5;have a2:y2.natAbs*1<=y2.natAbs*r1.natAbs:=?O5;omega
theorem EuA.step[?mX](h:?A1)(q:Int):EuA A B r2 x2 y2 (r1-q*r2) (x1-q*x2) (y1-q*y2):=by
 refine⟨h.e2,?_,?_,fun d h1 h2=>h.dv d ?_ h1⟩
 . rw[h.e1,h.e2];grind
 . have:x2*(y1-q*y2)-(x1-q*x2)*y2=-(?lO):=?D
   rw[this];rcases h.dt with z | z<;>rw[z]<;>omega
 . have:=?FS h2 (qs4 (a:=d) (b:=q) h1);have e:r1-q*r2+q*r2=r1:=O9m
   rw[e]at this;ext a1
theorem BL{r1 r2:Int}(h:0<=r1*r2)(h2:?yF):0<=?dE/\?uY/\0<=r2*(?l7):=by
 have e:?l7=?LT:=?a3E r1 r2
 rw[e];rcases ?DQ h2 with z | z
 . have r1n:r1<=0:=by
    ext gW;have:=?T9 y z;omega
   have q:?dE=(-r1).fdiv (-r2):=by rw[Int.neg_fdiv_neg]
   have m:?LT=-((-r1).fmod (-r2)):=?L4
   have m0:=qt8 (a:=-r1) (b:=-r2) O9m;have m1:=qw0 (-r1) (b:=-r2) O9m;refine⟨?_,O9m,?_⟩
   . rw[q,?I9];exact ?M3 O9m O9m
   . rw[m];have:r2*-((-r1).fmod (-r2))=(-r2)*(-r1).fmod (-r2):=by rw[Int.mul_neg,qn8]
     rw[this];exact ?GT
 . have r1p:0<=r1:=by
    ext gW;have:=?W4 y z;omega
   have m0:=qt8 (a:=r1) (b:=r2) z;have m1:=qw0 r1 z;refine⟨?_,O9m,?GT⟩;rw[?I9];exact ?M3 r1p O9m
theorem EuR.step[?mX][?a09](h2:?yF):?a1H EuR:=by
 obtain⟨q0,q1,q2⟩:=BL h.rr h2;obtain⟨l1,l2⟩:=h.next_le;generalize ?dE=q at *;refine⟨⟨h.a.step q,q2,h2,?_,?_,l1,l2⟩,q1⟩
 . have:x2*(x1-q*x2)=x1*x2-?DK:=?D
   rw[this];have a:=h.xx;have b:0<=?DK:=qk2 q0 (by rw[←?F0 (a:=x2)];omega);omega
 . have:y2*(y1-q*y2)=y1*y2-?L5:=?D
   rw[this];have a:=h.yy;have b:0<=?L5:=qk2 q0 (by rw[←?F0 (a:=y2)];omega);omega
def EuI[?CJ]:Prop :=
 ?J0\/(B<0/\r1=A/\x1=1/\y1=0/\r2=B/\x2=0/\y2=1) ∨
 (B<0/\r1=B/\x1=0/\y1=1/\r2=?oD/\x2=1/\y2=-(?aA))
theorem EuI.start{A B:Int}[?D2]:EuI A B A 1 0 B 0 1:=by
 rcases ?DQ hB with z | z
 . exact ?a3 (?L ⟨z,rfl,rfl,rfl,rfl,rfl,rfl⟩)
 . refine ?L ⟨?ME,qk2 O9m O9m,O9m,O9m,O9m,O9m,O9m⟩
theorem Qn{A B:Int}(hA:0<A)(hB:B<0):?aA<=-1/\-A<=?aA/\?oD<=0/\(?oD).natAbs<B.natAbs:=by
 have e:?oD=A.fmod B:=?a3E A B
 have m:A.fmod B=-((-A).fmod (-B)):=?L4
 have m0:=qt8 (a:=-A) (b:=-B) O9m;have m1:=qw0 (-A) (b:=-B) O9m;have k:?aA*B=A-A.fmod B:=O9m
 rw[e]
 have q1:?aA<=-1:=by
  ext gW;have:=qk2 (?a2N 0 ?aA) (?a37 B);rw[Int.mul_neg]at this;omega
 refine⟨q1,?_,O9m,O9m⟩;ext gW;have h:=?a29 (show 1<=-B by omega);have h2:-(?aA)*-B=?aA*B:=by rw[Int.neg_mul_neg]
 rw[h2]at h;have h3:=?a29 (?QJ (-B));rw[h2,qt3]at h3;have h4:A*1<=A*-B:=?E2;omega
theorem EuI.step[?mX](hA:0<A)[?a08](h2:?yF) :
 ?a1H EuI:=by
 ext Y9
 . exact⟨?L (?JE).1,(?JE).2⟩
 . subst e1 e2 e3 e4 e5 e6;obtain⟨_,_,_,q⟩:=?xR;exact⟨?a3 (?a3 ⟨hB,rfl,rfl,rfl,rfl,O9m,O9m⟩),q⟩
 . obtain⟨q1,q2,q3,q4⟩:=?xR;ext Y4
   have e7:=?SK;rw[←e4]at e7 q3 q4
   have rr:0<=B*r2:=by
    have:=qk2 (?a37 B) (?a37 r2);rw[Int.neg_mul_neg]at this;ext a1
   obtain⟨p0,p1,p2⟩:=BL rr h2
   have p3:1<=?B1:=by
    ext gW;have:?B1=0:=O9m
    rw[this]at p1;omega
   have f1:?cR-?aA*0=x2:=O9m
   have f2:?dH-?aA*1=y2:=O9m
   rw[f1,f2]at e7;have e8:=e7.step (?B1);subst e1 e2 e3;refine⟨?L ⟨e8,p2,h2,?_,?_,O9m,O9m⟩,p1⟩
   . subst e5;omega
   . generalize ?dE=p at *;have g1:y2*(1-p*y2)=-((p*y2-1)*y2):=?D
     rw[g1];have g2:1*y2<=p*y2:=qj9 p3 O9m;have:=qk2 (show 0<=p*y2-1 by omega) (?a2N 0 y2);omega
theorem EuI.all[?mX][?D2][?a08] :
 ?A1/\?yY/\?TJ/\?GF/\?G4:=by
 ext Y4
 ext Y9
 . exact⟨h.a,h.r0,h.lx,h.ly,h.next_le.1,h.next_le.2⟩
 . subst e1 e2 e3 e4 e5 e6;exact⟨e0,O9m,O9m,O9m,O9m,O9m⟩
 . obtain⟨q1,q2,q3,q4⟩:=?xR;have e7:=?SK;have f1:?cR-?aA*0=x2:=O9m
   have f2:?dH-?aA*1=y2:=O9m
   rw[f1,f2,←e4]at e7;subst e1 e2 e3;exact⟨e7,O9m,O9m,O9m,O9m,O9m⟩
structure Shares(A B g a b:Int):Prop where
 pos:0<g
 e:g=a*A+b*B
 dA:g∣A
 dB:g∣B
 la:a.natAbs<=B.natAbs
 lb:b.natAbs<=A.natAbs
theorem EuI.last{A B r1 x1 y1 x2 y2:Int}[?D2](h:?a1J EuI 0) :
 (0<r1->?sG A B r1 x1 y1)/\(r1<0->?sG A B (-r1) (-x1) (-y1))/\?yY:=by
 obtain⟨k,r0,a1,a2,_,_⟩:=h.all hA hB;obtain⟨d1,d2⟩:=k.dv r1 (Int.dvd_refl _) (Int.dvd_zero _);refine⟨fun p=>⟨p,k.e1,d1,d2,a1,a2⟩,fun p=>⟨O9m,?_,?HS d1,?HS d2,O9m,O9m⟩,r0⟩;rw[k.e1,qn8,qn8];omega
theorem Shares.blend{A B g a b:Int}{π:Nat}(hA:0<A)(h:?SI)(lA:A.natAbs<=?P)(lB:B.natAbs<=?P):LN π A B a b (-(B / g)) (?m8):=by
 obtain⟨p,eA⟩:=h.dA;obtain⟨q,eB⟩:=h.dB;have g0:g≠0:=?vP
 have k1:?m8=p:=?yH
 have k2:B / g=q:=?O8
 have gn:1<=g.natAbs:=?vP
 have n1:p.natAbs<=A.natAbs:=by rw[eA,qb1];exact ?H4
 have n2:q.natAbs<=B.natAbs:=by rw[eB,qb1];exact ?H4
 rw[k1,k2];refine⟨?_,by have:=h.pos;have:=h.e;omega,?_,qa6 h.la lB,qa6 h.lb lA,O9m,O9m⟩
 . have e:=h.e
   have:g*(a*p-b*-q)=g*1:=by
    rw[qm4];refine Eq.trans ?_ ?pM;rw[eA,eB]
    grind
   exact Int.eq_of_mul_eq_mul_left g0 ?F
 . rw[eA,eB]
   grind
universe Lat
namespace Lat
open Hb
def R6(n:Nat)(C:?aN)(δ b:Nat)(R:Mat):Prop:=∀r c,r<n->C c->?iQ*?hU<?y
theorem Q9{x y a k:Int}{δ b c:Nat}(hx:?GC<?y)(hy:?F2<?y)(ha:a.natAbs<=?w)(hk:k.natAbs<=?w):?RK*?hU<2 ^ (b+c+1):=by
 have e:=?TQ;rw[qb1,qb1]at e;have e2:=qb6 (?hU) e;rw[qf8,Nat.mul_assoc,Nat.mul_assoc]at e2;have p:0<?w:=?UZ c;have u:a.natAbs*(?GC)<?w*?y:=qb8 (qb6 _ ha) (qq7 hx p);have v:k.natAbs*(?F2)<?w*?y:=qb8 (qb6 _ hk) (qq7 hy p);rw[?yW,qh0,qe1];omega
theorem R6.mono{n δ b b':Nat}[?C8](hb:b<=b'):R6 n C δ b' R:=?JU
theorem R6.add{n δ b c p q:Nat}[?C8][?CD]:R6 n C δ (b+c+1) ?g3:=fun r x hr hx=>by
 ext jO
 . subst e;rw[Co];exact Q9 (h r x hr hx) (h q x hq hx) (show 1<=?w from qk5) (qe2 hk)
 . rw[Dc e];exact(h.mono O9m) r x hr hx
theorem R6.blend{n δ b e p q:Nat}[?C8][?aY][?Y6]:R6 n C δ (b+e+1) (?x R p q x y z u):=fun r c hr hc=>by
 by_cases e1:r=p
 . subst e1;rw[?dB];exact Q9 ?hQ (h q c hq hc) (qe2 hx) (qe2 hy)
 . by_cases e2:r=q
   . subst e2;rw[Jj];exact Q9 (h p c hp hc) ?hQ (qe2 hz) (qe2 hu)
   . rw[?O3];exact ?a48 (h.mono O9m)
variable[?dP]
def BB(n W:Nat)(C:?aN)(δ β:Nat)[?h0]:Prop:=?c5 n W β s.1/\?c5 n n β s.2/\R6 n C δ β s.1
theorem BB.mono{n W β β':Nat}[?dQ][?CW](hb:β<=β'):?a0A β' s:=⟨h.1.mono hb,h.2.1.mono hb,h.2.2.mono hb⟩
def addS(p q:Nat)(k:Int)[?h0]:?bI:=(?q s.1 p q k,?q s.2 q p (-k))
def blendS(p q:Nat)(x y z u:Int)[?h0]:?bI:=(?x s.1 p q x y z u,?x s.2 p q u (-z) (-y) x)
theorem BB.add{n W β c p q:Nat}[?dQ][?CW][?dU][?CD]:?a0A ?FO (?gA p q k s) :=
 ⟨(h.1.add hp hq hk).mono O9m,(h.2.1.add hq hp (k:=-k) (by rw[qc7];exact hk)).mono O9m,(h.2.2.add hq hk).mono O9m⟩
theorem BB.blend{n W β c p q:Nat}[?dQ][?CW][?aY]{x y z u:Int}(hx:?KH)(hy:y.natAbs<?w)(hz:z.natAbs<?w)(hu:u.natAbs<?w):?a0A ?FO (blendS p q x y z u s) :=
 ⟨(h.1.blend hp hq ne hx hy hz hu).mono O9m,(h.2.1.blend hp hq ne (x:=u) (y:=-z) (z:=-y) (u:=x) hu (by rw[qc7];exact hz) (by rw[qc7];exact hy) hx).mono O9m,(h.2.2.blend hp hq ne hx hy hz hu).mono O9m⟩
def shrS[?H](p f:Nat)[?h0]:?HO
 | 0=>s
 | d+1=>?gA p ?dI (-((?wV).1 p ?lN / (?wV).1 ?dI ?lN)) (?wV)
theorem kC[?tX][?d2][?h]{p f m μ β c:Nat}(P:?pH)[?YW][?ZR](hc:2 ^ (m-f)*μ<?w)(b:?LK) :
 ∀d,f+d<=m->OE n W w lo R B t p f m ?dI μ ?hI (?pU).2/\?a0A (β+d*?aV) (?pU)/\∀l c,l≠p->?hI l c=R l c:=by
 intro d
 induction d with
 | zero=>intro _;exact⟨?T1 h,b.mono O9m,?iO⟩
 | succ d ih =>
   intro hd;obtain⟨i1,i2,i3⟩:=?cS;obtain⟨q1,q2⟩:=i1.step P O9m (show f+d<m by omega) hp hm hn hpf;have e:?Q9=R ?dI ?lN:=i3 _ _ O9m
   have qb:(-(?hI p ?lN / ?Q9)).natAbs<?w:=by
    rw[qc7,e];refine qb8 q1 (qb8 ?_ hc);exact ?KW
   refine⟨?_,(i2.add O9m O9m qb).mono (?PK),fun l c hl=>?_⟩
   . show OE n W w lo R B t p f m (f+d+1) μ (?q ?hI p ?dI _) (?q (?pU).2 ?dI p _);rw[e,qn7];exact q2
   . show ?q ?hI p ?dI _ l c=_;rw[Dc hl];exact i3 l c hl
theorem OR[?aH][?d2][?h][?D7][?CQ][?BX][?C1][?CN] :
 ∀d,?mG->aN n W w i G R B t b p ?d μ ?fS ?vO (?pN).2:=by
 intro d
 induction d with
 | zero=>intro _;exact aN.start h
 | succ d ih =>
   intro hd;have i1:=?cS;obtain⟨q1,q2⟩:=i1.step P hG O9m (show ?q0<i by omega) hn hp;have e:?vO ?fS (t ?fS)=R ?fS (t ?fS):=i1.s.same _ _ O9m;show aN n W w i G R B t b p ?d μ (?q0+1) (?q ?vO p ?fS _) (?q (?pN).2 ?fS p _);rw[e,qn7];exact q2
theorem Sd[?aH][?d2][?h]{b p spot μ β c:Nat}[?CQ](inc:?yD)[?BX][?C1][?eY][?CN](hc:?xY<?w)[?gX] :
 j7 n W w i G R B t b p ?d μ (?SZ).1 (?SZ).2/\∀d,?mG->?a0A (β+i*?aV) (?pN):=by
 have r:=OR (W:=W) (w:=w) (B:=B) (b:=b) P h hG hn hp ?c2 O9m;rw[show ?xU+?c2=i by omega]at r;refine⟨r.done inc,?vW⟩;have:=(kC (W:=W) (w:=w) (lo:=i+1) (B:=B) P (?DL) O9m O9m O9m O9m (c:=c) (qb8 (?KW) hc) bb d hd).2.1;refine this.mono ?_;have:=qb6 ?aV (?a2N d i);omega
universe Lat
namespace Lat
open Hb
variable[?dP]
noncomputable abbrev cS(π i:Nat):Nat:=i+2*π+2
noncomputable abbrev cM(π i:Nat):Nat:=π+2+2*(?MN)
theorem bA{x π:Nat}(h:x<=?P):x<?lZ:=by
 have:1<=?P:=qk5;rw[qh0];omega
theorem RL{π i μ:Nat}(h:μ<=?bB):?xY<2 ^ ?g9:=by
 have e:2 ^ ?g9=2*(2 ^ i*?bB):=by
  rw[show ?g9=1+(i+(2*π+1)) by unfold cS;omega,qe1,qe1,Nat.pow_one]
 rw[e];have a:=qe8 (2 ^ i) h;have b:1<=2 ^ i*?bB:=by rw[←qe1];exact qk5
 omega
variable[?aH][?eU][?h]{π b spot β:Nat}
theorem Dt.partOf[?eS]{R1:Mat}(e:∀r c,?j0->r<i->?y8=?bP) :
 ?eC R1 t ?A i/\(?yD)/\∀r c,?j0->r<i->G c->?a5G ?y8 ?y:=by
 have k:∀r c,?j0->r<i->?y8=?x2:=fun r c h1 h2=>(e r c h1 h2).trans (?bU r c O9m h2);refine⟨(H.part.sub ?aK).congr fun j c h1 h2=>k j c O9m h2,fun l h1 h2=>?hA ?d l ?aK h1 h2,fun r c h1 h2 hc=>?_⟩;rw[k r c h1 h2];exact H.rw r c h2 hc
theorem Dt.meetAdd[?eS][?eY][?tE]{q:Int}[?a02][?gX] :
 ?a2P ?RQ ?RQ ∧
 ?a0A ?m4 ?s0/\?a4V i ?s0:=by
 have hn:=H.hi
 have hq:?wK:=by
  have a:=h.pv ?d ?g hs;have p:=?Z ?d hs;rw[he,qb1]at a;exact qa6 (qi0 _ O9m) a
 have b1:?a0A (?jU) ?s0:=bb.add hn O9m (c:=π+1) (by rw[qc7];exact bA hq);obtain⟨P,inc,hG⟩:=?vG H (R1:=?OL) fun r c h1 h2=>?H2;obtain⟨S,bs⟩:=Sd (n:=n) (W:=W) (w:=w) (G:=G) (B:=(?wI).2) (p:=i) (μ:=?lZ) (β:=?jU) (c:=?g9) P inc (h.addPre H hs hq) hG hs hn ?ND (RL ?bX) b1;refine⟨h.metAdd H hs hq hz he ?_,?HI,?a1G bs⟩;have e:(?wI).2=?NU:=by show ?q B ?d i (- -q)=_;rw[qn7]
 rw[←e];exact S
theorem Dt.meetBlend[?eS][?eY][?tE][?BY][?gX] :
 ?a2P ?QI ?QI ∧
 ?a0A ?m4 ?o7/\(?a4V ?d ?o7) ∧
 ?a4V i (?BM):=by
 have hn:=H.hi;have ne:?zX:=O9m
 have b1:?a0A (?jU) ?o7:=bb.blend O9m hn ne (c:=π+1) (bA e.lx) (bA e.ly) (bA e.lz) (bA e.lu);obtain⟨p1,p2⟩:=h.blendPre H hs e;obtain⟨P,inc,hG⟩:=?vG H (R1:=?zS) fun r c h1 h2=>?O2;obtain⟨S1,bs1⟩:=Sd (n:=n) (W:=W) (w:=w) (G:=G) (B:=(?zC).2) (p:=spot) (μ:=?bB) (β:=?jU) (c:=?g9) P inc p1 hG hs hn (?L ?g) ?WD b1;have b2:=bs1 ?c2 O9m;generalize hs2:?BM=s2 at *;have Bb7:?a54 ?d (?zS,(?zC).2)=s2:=hs2;rw[Bb7]at S1 b2;obtain⟨P2,Ba0,hG2⟩:=?vG H (R1:=s2.1) fun r c h1 h2=>by rw[?k9 r c ?c,Ec ?c ?c]
 have p3:∀l,?dZ->l<i->(s2.1 i ?s).natAbs<=?bB*(s2.1 l ?s).natAbs:=fun l h1 h2=>by
  rw[?k9 i _ ?fL,?M8];exact p2 l h1 h2
 obtain⟨S2,bs2⟩:=Sd (n:=n) (W:=W) (w:=w) (G:=G) (R:=s2.1) (B:=s2.2) (p:=i) (μ:=?bB) (β:=?jU+?MN) (c:=?g9) P2 Ba0 p3 hG2 hs hn ?ND ?WD b2;exact⟨h.metBlend H hs e hz S1 S2,?HI,?a1G bs1,?a1G bs2⟩
universe Lat
namespace Lat
open Hb
variable[?dP]
def downS[?H](i:Nat)[?h0]:?HO
 | 0=>s
 | d+1=>?a5I (?d9 t i s d) d
theorem a9[?aH][?eU][?h]{Y β:Nat}(I:VS n W w i G R0 B0 t Y R B)(hi:i<n)[?gX] :
 ∀d,?iV->?IZ/\?TI ∧
   (d<=i->∀m,m<=d->?DV):=by
 intro d
 have nxt:∀d,d<=i->?IZ->?TI →
  ∀m,m<=d->OE n W w ?i (?e2).1 (?e2).2 t ?aO ?f7 ?i (?dV+m) (?s4) (?yQ).1 (?yQ).2/\?DV:=by
  intro d hd D b m hm;generalize hs:?e2=s at *;obtain⟨R1,B1⟩:=s;have P:=D.part;rw[?PG]at P D
  have rel:∀l,?dV<=l->l<i+1->(?PD).natAbs<=?s4*(?DM).natAbs:=fun l h1 h2=>by
   have o:?PD=R ?aO ?s:=D.old ?aO ?s O9m;have p:0<?DM:=?F8 l h2;rw[o];refine qa6 (I.gc ?aO ?s O9m (I.pg l O9m)) (qi0 _ O9m)
  have run:=kC (n:=n) (W:=W) (w:=w) (lo:=i+1) (R:=R1) (B:=B1) (p:=i-d) (f:=?dV) (m:=i+1) (μ:=?s4) (c:=i+1+Y+1) (β:=β+?a1I d Y) P rel O9m ?g hi (?L O9m) (by
   rw[←qe1];exact ?wO) b m O9m
  refine⟨run.1,run.2.1.mono ?_⟩;rw[qf8 d 1,qf7];have:=qb6 (i+1+Y+2) (show m<=i+1 by omega);have e:m*(i+1+Y+1+1)=m*(i+1+Y+2):=rfl;omega
 induction d with
 | zero =>
   intro _;have D0:Pd n W w i R B t (i+1-0) (?B6).1 (?B6).2:=Pd.start I.s0;have b0:?a4W 0 ?B6:=bb.mono O9m;exact⟨D0,b0,fun hd m hm=>(nxt 0 hd D0 b0 m hm).2⟩
 | succ d ih =>
   intro hd;obtain⟨D,b,_⟩:=?cS;obtain⟨S,b2⟩:=nxt d O9m D b d ?g
   have D2:Pd n W w i R B t (i+1-?dO) (?FF).1 (?FF).2:=by
    rw[show i+1-?dO=i-d by omega];rw[?PG]at D;rw[show ?dV+d=i+1 by omega]at S;exact D.next O9m S
   exact⟨D2,b2,fun h m hm=>(nxt ?dO h D2 b2 m hm).2⟩
universe Lat
namespace Lat
open Hb
theorem sumN_cut[?B]{j:Nat}:∀{i:Nat},?cV->(∀k,j<=k->k<i->f k=0)->Al f i=?qK
 | 0,h,_=>by rw[?a0O j 0]
 | i+1,h,hz=>by
   by_cases e:j=i+1
   . rw[e]
   . show Al f i+f i=_;rw[?RX ?c fun k h1 h2=>hz k h1 ?c,hz i ?c ?c];omega
theorem cG[?B]{m h:Nat}:∀{j:Nat},(∀k,k<j->?xX<=2 ^ k*m*h)->(?qK).natAbs+m*h<=2 ^ j*m*h
 | 0,_=>by show ?OY+m*h<=2 ^ 0*m*h;simp
 | j+1,hf=>by
   have a:=cG (f:=f) (m:=m) (h:=h) (j:=j) (?a4N hf O9m);have b:=hf j O9m;have c:=qf6 (?qK) ?jY;show(?qK+f j).natAbs+m*h<=_;rw[qh0];have e:2 ^ j*2*m*h=2 ^ j*m*h+2 ^ j*m*h:=?D
   omega
theorem Xs{a b:Int}{m:Nat}(h:(a+b).natAbs<=m):b.natAbs<=m+a.natAbs:=O9m
theorem UQ{x s m M K:Nat}(h1:x<=m+s)(h2:s+M<=K)(h3:m*1<=M):x<=K:=O9m
theorem RS{i:Nat}[?d2][?h](P:?eC R t 0 i){a m:Nat}(h:?a1C ?sJ m):?UR:=by
 intro j
 induction j using Nat.strongRecOn with
 | _ j ih =>
   intro hj;have pj:=P.pos j ?aK hj;have hs:=?a4J h;rw[?RX (j:=j+1) ?c fun k h1 h2=>by rw[?BR k _ ?aK h2 (P.inc j k ?aK ?c h2)];simp]at hs;have hs':(Al (?qQ) j+?H9).natAbs<=m:=hs
   have b:=cG (f:=?qQ) (m:=m) (h:=?fM) (j:=j) fun k hk=>by
    rw[qb1];obtain⟨r1,r2⟩:=P.red k j ?aK hk hj;exact qf5 (ih k hk O9m) O9m
   have c:(?H9).natAbs<=2 ^ j*m*?fM:=by
    exact UQ (Xs hs') b (?vJ)
   rw[qb1]at c;exact qq8 c O9m
theorem Dx.backs[?aH][?tW][?h][?gV](hi:?gK){a m:Nat}(hb:∀k,i<=k->B k a=?I3)(hM:?a1C ?BI m)(hM2:?a1C ?nT m)(ha:i<=a->a<n->∀j,j<i->?BI=?nT):?UR:=by
 refine RS ?AA ?a4;have e:?F3=?BI:=h.good.pt a ?I
 have s:?F3=?sJ+(if ?MQ then ?nT else 0):=by
  have:∀d,i+d<=n->?K7=?sJ+(if ?P1 then ?nT else 0):=by
   intro d
   induction d with
   | zero=>intro _;ext d0;show Al _ i=_;omega
   | succ d ih =>
     intro hd;show ?K7+B ?mE a*R ?mE ?I=_;rw[?jX,hb ?mE ?c,?s5 ?mE _ ?c];by_cases z:i+d=a
     . subst z;rw[?r,?n,?Y];omega
     . ext cG;by_cases y:?P1
       . ext tA;omega
       . ext t9;omega
  have:=?F (n-i) O9m;rw[show i+(n-i)=n by omega]at this;ext a1
 by_cases z:?MQ
 . rw[?d5,e,ha z.1 z.2 j hj]at s;have:?sJ=0:=O9m
   rw[this];exact ?aG
 . rw[?eH,qf1]at s;rw[←s,e];exact ?a4J hM
theorem OQ[?h][?f0](inc:?a2T n):?TF:=by
 have:?J8:=by
  intro m
  induction m with
  | zero=>ext YU
  | succ m ih =>
    ext YY
    . have hrm:r=m:=by
       ext Z4;have:=inc r m y O9m;omega
      exact⟨m+1,?iB,fun j hj=>by
       by_cases q:j=m
       . rw[q];exact z
       . exact b j O9m,?v6⟩
    . exact⟨r,O9m,b,fun j h1 h2=>by
       by_cases q:j=m
       . rw[q];omega
       . exact ?RZ⟩
 exact ?SV
theorem Dx.first{n W w D:Nat}[?bR][?h](hD:Pe n G M D)[?CK] :
 ∃r,?b3/\?LV/\(?GM)/\Rk n W w r t ?lL R/\?TH<=D/\?MI:=by
 obtain⟨r,hr,h1,h2⟩:=OQ (w:=w) ?mQ;have pos:∀k,k<n->0<?lL k:=?a4N ?kA hk;refine⟨r,hr,?QQ,?LQ,⟨fun j c _ a b=>?qA j c a b,fun j k _ a b=>?mQ j k a b,h2,fun j _ a=>?g7 j a,fun j _ _=>rfl,fun j _ a=>?kA j a,fun k j _ a b=>?rH k j a b⟩,?_,?a4⟩
 . have a:=Yz (n:=n) pos r hr;have b:=?xM hD ?g (s:=t) h.pg;rw[bI ?vF]at b;have c:=C8 (n:=n) pos;omega
 . have:=h.headD hD ?g hj;have:=?QF;omega
variable[?dP]
theorem addS_zero(p q:Nat)[?h0]:?gA p q (-0) s=s:=by
 unfold addS;rw[?VK,?VK,BV,BV]
theorem eW[?h]{p f:Nat}[?dQ]:∀m,(∀j,?jB->j<f+m->s.1 p ?I / ?v7=0)->?nX=s
 | 0,_=>rfl
 | m+1,h=>by
   have ih:=eW (t:=t) (p:=p) (f:=f) (s:=s) m fun j h1 h2=>h j h1 O9m;show ?gA p ?lC (-((?nX).1 p (t ?lC) / (?nX).1 ?lC (t ?lC))) (?nX)=s;rw[ih,h ?lC ?c ?c,addS_zero]
structure Ab7(i:Nat)[?H](R:Mat):Prop where
 inc:∀j,j<i->t j<t i
 zero:∀x,x<t i->?lW=0
 pos:∀j,?cV->?sT
 red:∀k j,k<j->j<i->?xE
def K5(R:Mat)[?H](i k:Nat):Int:=R k ?cL / R i ?cL
structure Ox(n i β c:Nat)[?H][?T](d:Nat)[?h0]:Prop where
 rows:∀r x,s.1 r x=if ?AH then ?lB+-(?nU)*?lW else ?lB
 old:∀r x,r≠i->s.2 r x=B r x
 back:∀x,x<n->(s.2 i x).natAbs<=?lG*?dO
theorem Ox.step{n i β c:Nat}[?h][?d2]{d:Nat}[?dQ](L:?FC)(bb:?E5)[?C3](hd:d<i+1)(h:?KC) :
 ?a1U ?dO (?a5I s d)/\?H6:=by
 have own:∀x,s.1 ?aO x=R ?aO x:=?JZ
 have ri:∀x,s.1 i x=?lW:=?JZ
 have hdj:∀j,?cV->?v7=?aB:=fun j hj=>by
  rw[h.rows];by_cases z:?rO<=j/\j<i
  . rw[?d5,L.zero ?I (L.inc j z.2)];simp
  . ext cG
 have zq:∀m,m<d->∀j,?dV<=j->j<?dV+m->s.1 ?aO ?I / ?v7=0:=fun m hm j h1 h2=>by
  rw[own,hdj j ?c];obtain⟨a,b⟩:=L.red ?aO j O9m O9m;exact Int.ediv_eq_zero_of_lt a b
 have zs:?H6:=fun m hm=>eW m (zq m hm);refine⟨?_,zs⟩;by_cases d0:d=0
 . subst d0;show ?a1U 1 s;refine⟨?uO,?bU,fun x hx=>qa6 (?B8) (?vJ)⟩;rw[h.rows,?n,?n]
 . obtain⟨e,rfl⟩:∃e,d=e+1:=⟨d-1,O9m⟩
   have last:?N t ?cP (i-(e+1)+1) s (e+1)=?gA ?cP i (-(?rS)) s:=by
    show ?gA _ (i-(e+1)+1+e) _ (?N t ?cP (i-(e+1)+1) s e)=_;rw[zs e ?c,show i-(e+1)+1+e=i by omega,own,hdj i ?g];rfl
   rw[last];refine⟨?uO,fun r x hr=>?_,?sM⟩
   . show ?q s.1 ?cP i _ r x=_;by_cases z:r=i-(e+1)
     . subst z;rw[Co,own,ri,?Y,qd5]
     . rw[Dc z,h.rows];by_cases y:i+1-(e+1)<=r/\r<i
       . ext tA
       . ext t9
   . show ?q s.2 i ?cP _ r x=_;rw[Dc hr];exact ?bU r x hr
   . show(?q s.2 i ?cP (- -(?rS)) i x).natAbs<=_;rw[Co,qd5,qn7,?bU ?cP x ?c];have a:=?B8;have b:=qf6 (s.2 i x) (?rS*B ?cP x);rw[qb1]at b;have m:(?rS).natAbs*(B ?cP x).natAbs<=?w*?cO:=qf5 (qe2 (hq _ O9m)) (qe2 (bb _ _ O9m hx));rw[←qe1,?XA]at m;rw[Nat.mul_add _ (e+1+1) 1,Nat.mul_one];omega
theorem QJ{n W i β c:Nat}[?h][?d2](L:?FC)[?gX][?C3] :
 ∀d,?iV->?a1U d (?e2):=by
 intro d
 induction d with
 | zero =>
   intro _;refine⟨?uO,?iO,?sM⟩
   . ext d0;rfl
   . show ?TZ<=_;have a:?TZ<?cO:=?oJ i x hi hx;have p:?J2:=?c3;omega
 | succ d ih =>
   intro hd;exact((?cS).step L ?oJ hq hi O9m).1
theorem Ox.bits{n W i β c:Nat}[?h][?d2]{d:Nat}[?dQ][?gX][?C3](hd:?iV)(h:?KC):?a0A (β+(c+i+3)) s:=by
 refine⟨?uA,?uA,?uA⟩
 . rw[h.rows];by_cases z:?AH
   . ext eX;have e:=qf6 (?lB) (-(?nU)*?lW);rw[qb1,qc7]at e;have a:=?GA;have b:=bb.1 i x hi hx;have m:(?nU).natAbs*(?lW).natAbs<=?w*?cO:=qf5 (qe2 (hq r z.2)) (qe2 b);rw[←qe1,?XA]at m;have p:?J2:=?c3
     have q:4*?lG<=?a4U β (c+i+3):=by
      have e4:4*?lG=?a4U 2 ?zK:=by rw[qe1 2 2 ?zK]
      rw[e4];exact ?c3
     have a':?KO<?cO:=a;omega
   . ext cG;exact qb3 (?GA) ?bX
 . by_cases z:r=i
   . subst z;have a:=?B8
     have l:d+1<?a4U r 2:=by
      have:=qp9 (n:=r+2);omega
     refine qb8 a ?_;have e4:?a4U β (c+r+3)=?lG*?a4U r 3:=?z5
     rw[e4];refine qq7 ?_ qk5;exact qb3 l ?bX
   . rw[?bU r x z];exact qb3 (?oJ r x hr hx) ?bX
 . rw[h.rows];by_cases z:?AH
   . ext eX;have:=Q9 (a:=1) (k:=-(?nU)) (c:=c) (bb.2.2 r x hr hx) (bb.2.2 i x hi hx) (show 1<=?w from qk5) (by rw[qc7];exact qe2 (hq r z.2));rw[qd5]at this;exact qb3 ?F ?bX
   . ext cG;exact qb3 (bb.2.2 r x hr hx) ?bX
universe Lat
namespace Lat
open Hb
variable[?dP]
theorem fdiv_small{x h:Int}{c:Nat}(hh:0<h)(hx:?KH):?TA<?w:=by
 have:=KU (x:=x) (h:=h) (K:=x.natAbs) hh (qi0 _ O9m);omega
theorem Dx.putB{n W w i β:Nat}[?bR][?h][?gV](hi:i<n)[?tO](bb:?a3Q β R):Kd n W w i G R B t β β :=
 ⟨hi,?AA,?g7,fun j hj=>qe2 (bb j _ O9m (?a4J ?g7)),fun r c hr hc=>qe2 (bb r c O9m (wZ c hc)),fun c hc=>qe2 (bb i c hi (wZ c hc)),fun l hl=>qe2 (bb i _ hi (?g7 l hl))⟩
theorem Ci.last{n W w r i β c:Nat}[?bR][?cZ][?mW](hn:i<n)[?tO](hG:G ?e0)[?gX](hc:∀k,k<i->(R k ?e0).natAbs<?w) :
 Ci n W w r ?i G M B0 kt hd ?bO (?OU).1 (?OU).2 ∧
 (∀d,?iV->Ox n i β c ?bO R B d (?rD)/\?a0A (β+(c+i+3)) (?rD)) ∧
 (∀d,d<i+1->∀m,m<d->?N ?bO ?aO ?f7 (?rD) m=?rD):=by
 have H:=h.st.putB hn wZ bb.1;obtain⟨I,_⟩:=h.ins K hi H hG;have D:=(a9 I hn bb ?i ?g).1;rw[qi4]at D;ext YK;ext BS
 have L:Ab7 i ?bO R:=⟨fun j hj=>I.s0.inc j i hj O9m,fun x hx=>I.s0.zero i x O9m hx,?a2E I.s0.pos,fun k j h1 h2=>by rw[t1 j h2];exact ?SJ k j h1 h2⟩
 have hq:∀k,k<i->?PA<?w:=fun k hk=>?X0 (L.pos i ?g) (by rw[t2];exact hc k hk);have run:=QJ L bb hq hn;exact⟨h.nextK K hi hn I D,fun d hd=>⟨?u5,(?u5).bits bb hq hn hd⟩,fun d hd=>((?RT).step L ?oJ hq hn hd).2⟩
def BW(n r i:Nat)(kt:?u)(c:Nat)(R:Mat):Prop:=∀k j,k<i->i<=j->j<n->(R k ?eE).natAbs<?w
theorem Ci.above{n W w r i β c η:Nat}[?bR][?cZ][?dQ][?mW](hn:i<n)(hη:∀j,?aI->j<n->?WH)(a:BW n r i kt c R)(l:Ox n i β c ?bO R B ?i s):BW n r ?i kt (c+η+1) s.1:=fun k j h1 h2 h3=>by
 ext BS
 have mi:(R i ?eE).natAbs<?h9:=by
  ext CG;obtain⟨m1,m2⟩:=K.red i j O9m O9m h3;have:=hη j O9m h3;omega
 have p1:?h9<=?TD:=?c3;have p2:?w<=?TD:=?c3;rw[l.rows,qh0];by_cases z:i+1-?i<=k/\k<i
 . ext eX;have e:=qf6 (R k ?eE) (-(?DS)*R i ?eE);rw[qb1,qc7]at e
   have q:?PA<=?w:=by
    unfold K5;rw[t2];have p:0<R i ?e0:=by rw[?TX,?KK];exact ?oI i hi hn
    exact qe2 (?X0 p (a k i z.2 ?g hn))
   have m:=qf5 q (qe2 mi);rw[←qe1]at m;have b:=a k j z.2 O9m h3;omega
 . ext cG;have:k=i:=O9m
   subst this;omega
universe Lat
namespace Lat
open Hb
def put2[?G](i j:Nat)(x y:Int):?j:=fun k=>if k=i then x else if k=j then y else f k
theorem Sw[?G](i j:Nat)(x y:Int):?dX f i j x y i=x:=?r
theorem Su{i j:Nat}[?G](h:?iR)(x y:Int):?dX f i j x y j=y:=by unfold put2;rw[?a56 h,?r]
theorem Kg{i j k:Nat}[?G](h1:k≠i)(h2:k≠j)(x y:Int):?dX f i j x y k=f k:=by unfold put2;rw[?f h1,?tZ]
structure Au9(o t g r:Int):Prop where
 go:g∣o
 gt:g∣t
 tr:t∣r
 pr:g*r=o*t
 all:∀d:Int,d∣o->d∣t->d∣g
theorem Shares.pair{A B g a b:Int}(h:?SI):Au9 A B g (?m8*B):=by
 obtain⟨p,eA⟩:=h.dA;have g0:g≠0:=?vP
 have k1:?m8=p:=?yH
 refine⟨h.dA,h.dB,⟨?m8,?q6⟩,?_,fun d h1 h2=>?_⟩
 . rw[k1,←qf2,←eA]
 . rw[h.e];exact ?FS (qs4 h1) (qs4 h2)
def ChainTo(m i:Nat)[?G]:Prop:=∀a b,a<i->a<b->b<m->f a∣f b
def ChainAt(m i j:Nat)[?G]:Prop:=?SD/\∀b,i<b->b<j->f i∣f b
theorem ChainAt.step{m i j:Nat}[?B]{g r:Int}(h:?VI)[?D6](p:Au9 ?bV ?jY g r):?mI m i ?O (?dX f i j g r):=by
 have ne:?iR:=O9m
 refine⟨fun a b ha hab hb=>?_,fun b hb hbj=>?_⟩
 . rw[Kg f (?a0G a i) (?a0G a j)];have d1:=h.1 a i ha ha O9m;have d2:=h.1 a j ha O9m hj;by_cases e1:b=i
   . rw[e1,Sw];exact p.all _ d1 d2
   . by_cases e2:b=j
     . rw[e2,?fW];exact qw1 d2 p.tr
     . rw[?NX];exact h.1 a b ha hab hb
 . rw[Sw];by_cases e2:b=j
   . rw[e2,?fW];exact qw1 p.gt p.tr
   . rw[Kg f ?c e2];exact qw1 p.go (?EB)
theorem ChainAt.skip{m i j:Nat}[?B](h:?VI)(d:f i∣f j):?mI m i ?O f:=⟨h.1,fun b hb hbj=>by
 by_cases e:b=j
 . rw[e];exact d
 . exact ?EB⟩
theorem ChainTo.at{m i:Nat}[?B](h:?SD):?mI m i ?i f:=⟨h,fun b h1 h2=>O9m⟩
theorem ChainAt.next{m i:Nat}[?B](h:?mI m i m f):ChainTo m ?i f:=fun a b ha hab hb=>by
 by_cases e:a=i
 . rw[e]at hab ⊢;exact h.2 b hab hb
 . exact h.1 a b O9m hab hb
theorem Vj{f f':?j}{i:Nat}:∀{m:Nat},i<m->(∀k,k<m->k≠i->f' k=f k)->?q9*f i=?bT*f' i
 | m+1,hi,h=>by
   show ?q9*f' m*f i=?bT*f m*f' i;by_cases e:i=m
   . subst e
     have:?k f' i=?k f i:=by
      have:∀l,l<=i->?MV=?k f l:=by
       intro l
       induction l with
       | zero=>intro _;rfl
       | succ l ih=>intro hl;show ?MV*f' l=?k f l*f l;rw[?jX,h l ?c ?c]
      exact ?F i ?g
     rw[this]
     grind
   . have ih:=Vj (f:=f) (f':=f') (i:=i) (m:=m) O9m ?gQ;rw[h m ?c (?hL)];have:?q9*f m*f i=?q9*f i*f m:=?D
     rw[this,ih]
     grind
theorem mD[?B]{i j m:Nat}{x y:Int}[?D6](h0:f i≠0)(hj0:f j≠0)(e:x*y=f i*f j):?sH=?bT:=by
 have ne:?iR:=O9m
 have a:=Vj (f:=f) (f':=?zM) (i:=i) (m:=m) O9m fun k hk hne=>by
  by_cases z:k=j
  . rw[z,?fW]
  . exact Kg f hne z ..
 have b:=Vj (f:=?zM) (f':=?SL) (i:=j) (m:=m) hj fun k hk hne=>by
  by_cases z:k=i
  . rw[z,Sw,Sw]
  . rw[?R7,?R7]
 rw[Sw]at a;rw[?fW,?fW]at b
 have c:?sH*(f j*f i)=?bT*(f j*f i):=by
  have:?sH*(f j*f i)=(?sH*f j)*f i:=?D
  rw[this,b];have:?UX*y*f i=(?UX*f i)*y:=?D
  rw[this,a];have:?bT*x*y=?bT*(x*y):=?D
  rw[this,e]
  grind
 exact Int.eq_of_mul_eq_mul_right (Int.mul_ne_zero hj0 h0) c
structure Bil(β:?IM):Prop where
 l:∀u v y a b,β ?rM y=a*β u y+b*β v y
 r:∀x u v a b,β x ?rM=a*β x u+b*β x v
theorem cB{β:?IM}(hb:Bil β){P Q:Mat}[?B]{i j n w:Nat}(ne:?iR)(hin:i<n)(hjn:j<n)(hiw:i<w)(hjw:j<w)(h:∀x y,x<n->y<w->β (P x) (Q y)=?HY)[?ZV] :
 ∀x y,x<n->y<w->β (?q ?l4 j i (-(b*f j / g)) x) (?x Q i j a b (-(f j / g)) (?dN) y)=if x=y then ?dX f i j g (?dN*f j) x else 0:=by
 obtain⟨p,eA⟩:=S.dA;obtain⟨q,eB⟩:=S.dB;have g0:g≠0:=by have:=S.pos;omega
 have k1:?dN=p:=?yH
 have k2:f j / g=q:=?O8
 have k3:b*f j / g=b*q:=by rw[eB,show b*(g*q)=g*(b*q) by grind];ext jP
 have e0:=S.e;have ne':j≠i:=?x0;rw[k1,k2,k3];have pi:?a4R i=?SY:=by rw[?fO ne,Nm]
 have pj:?a4R j=fun c=>1*P j c+?p5*(?SY) c:=by
  rw[Nm,?fO ne',Nm]
 have po:∀x,x≠i->x≠j->?a4R x=P x:=fun x h1 h2=>by rw[?fO h2,?fO h1]
 have ii:=h i i hin hiw;have ij:=h i j hin hjw;have ji:=h j i hjn hiw;have jj:=h j j hjn hjw;rw[?r]at ii jj;rw[?mC]at ij;rw[?f ne']at ji;intro x y hx hy;by_cases y1:y=i
 . subst y1;rw[?jT];by_cases x1:x=y
   . subst x1;rw[?r,Sw,pi,hb.l,hb.r,hb.r,ii,ij,ji,jj]
     grind
   . rw[?yC];by_cases x2:x=j
     . subst x2;rw[pj,hb.l,hb.l,hb.r,hb.r,ii,ij,ji,jj];have:1*(a*0+?lR)+-(b*q)*(1*(a*f y+b*0)+1*(a*0+?lR))=?lR-b*q*(a*f y+?lR):=?D
       rw[this,←e0];have:?lR=b*(g*q):=by rw[←eB]
       rw[this]
       grind
     . rw[?zD,hb.r,?kQ,h x j hx hjw,?yC,?xW];simp
 . by_cases y2:y=j
   . subst y2;rw[blend_row_q];by_cases x1:x=i
     . subst x1;rw[?mC,pi,hb.l,hb.r,hb.r,ii,ij,ji,jj];have:1*(-q*f x+p*0)+1*(-q*0+p*f y)=p*f y-q*f x:=?D
       rw[this,eA,eB]
       grind
     . by_cases x2:x=y
       . subst x2;rw[?r,?fW,pj,hb.l,hb.l,hb.r,hb.r,ii,ij,ji,jj];have:1*(-q*0+p*f x)+-(b*q)*(1*(-q*f i+p*0)+1*(-q*0+p*f x))=p*f x-b*q*(?P5):=?D
         rw[this];have:?P5=0:=by rw[eA,eB];grind
         rw[this];omega
       . rw[?xW,?zD,hb.r,h x i hx hiw,?kQ,?yC,?xW];simp
   . rw[?BG y1 y2];by_cases x1:x=i
     . subst x1;rw[?uZ,pi,hb.l,?kQ,h j y hjn hy,?uZ,?w6];simp
     . by_cases x2:x=j
       . subst x2;rw[?w6,pj,hb.l,hb.l,?kQ,h i y hin hy,?w6,?uZ];simp
       . rw[?zD,?kQ];by_cases e:x=y
         . rw[?bG,?bG,Kg f x1 x2]
         . rw[?c9,?c9]
def Pf[?b1](A:Mat)(p q:?j):Int:=Al (?a4E w) n
theorem lD[?b1](A:Mat):Bil (Pf n w A):=by
 refine⟨fun u v y a b=>?_,fun x u v a b=>?_⟩
 . unfold Pf;ext jE;exact ?a45 ?D
 . unfold Pf;ext jE;refine ?BO
   have:Al (fun c=>A k c*(?v1)) w=a*Al (fun c=>A k c*u c) w+b*Al (fun c=>A k c*v c) w:=by
    ext jE;exact Ak fun c _=>?D
   rw[this]
   grind
theorem Wd[?f0]{A:Mat}{p p' q q':?j}(hp:∀a,a<n->p a=p' a)(hq:∀b,b<w->q b=q' b):?MB=?a0V p' q':=by
 unfold Pf;refine Ak ?HZ;rw[hp a ha,Ak fun b hb=>by rw[hq b hb]]
theorem Nk[?b1](A:Mat)(p q:?j):?MB=Pf w n ?rB q p:=by
 unfold Pf;rw[show(?a4E w)=fun a=>Al (fun b=>p a*(?BF)) w from ?aD fun a=>(Bg ..).symm];rw[Cl];refine Ak fun b _=>?_;rw[←Bg];exact Ak fun a _=>?D
theorem DY[?f0]{A:Mat}{x:?j}{U:Mat}{q:?j}:∀m,Pf n w A (fun c=>?qN) q=?u9
 | 0=>by
   show ?a0V (?cM) q=0;unfold Pf;exact ?S fun a _=>?bK
 | m+1=>by
   have e:(fun c=>?a0E ?f1 ?lD)=fun c=>1*(?a2C ?qN) c+?AT:=?aD fun c=>by
    show ?qN+?AT=1*?qN+?AT;omega
   rw[e,(?U9).l,DY m];show 1*?u9+x m*?a0V (U m) q=?u9+x m*?a0V (U m) q;omega
def NY[?b1](A Q M:Mat):Prop:=∀k c,k<n->c<w->M k c=?a0V (fun a=>M k ?dG) ?f6
theorem NY.rows{n w W:Nat}{A Q M R:Mat}(h:?NT)(hW:?AQ)(e:∀i,i<n->In W n M (R i)):?MO:=fun i c hi hc=>by
 obtain⟨x,hx⟩:=e i hi;rw[?IB];have:?a0V (fun a=>R i ?dG) ?f6=Pf n w A (fun a=>Al (fun k=>x k*(fun k a=>M k ?dG) k a) n) ?f6:=Wd (fun a ha=>hx ?dG O9m) ?hG;rw[this,DY];exact Ak fun k hk=>by rw[?wF]
theorem Dx.told{n W w:Nat}[?nE]{A Q M B0 R B:Mat}[?h][?CK](hW:?AQ)(k:?NT):?MO:=k.rows hW (?QP).1
def beside(w:Nat)(T P:Mat):Mat:=fun r c=>if c<w then T r c else P r (c-w)
theorem beside_lo{w:Nat}{T P:Mat}{r c:Nat}(h:c<w):?z w T P r c=T r c:=?rN
theorem beside_hi(w:Nat)(T P:Mat)(r a:Nat):?z w T P r ?dG=P r a:=by unfold beside;rw[?n,Nat.add_sub_cancel_left]
theorem Pg[?YN]:NY n w A Q ?cI:=fun k c hk hc=>by
 rw[?sO,?wF];exact Wd (fun a _=>(beside_hi w T P k a).symm) ?hG
theorem U3[?YN]:∀c k,c<w->k<n->tr T c k=Pf w n ?rB ?f6 (P k):=fun c k hc hk=>by
 show ?c1=_;rw[?wF,Nk]
variable[?dP]
def Gg(π b i:Nat):Nat:=i*?mU+?a1I ?i ?g0
def Ej(π b:Nat):?u
 | 0=>0
 | i+1=>?OR+?oZ
def Re(c η r:Nat):?u
 | 0=>0
 | d+1=>?JA+(c+d*(η+1)+(r+d)+3)
universe Lat
namespace Lat
open Hb
variable[?dP]
theorem Ci.wide[?jM]{G G':?aN}[?tW][?cZ][?a01](hG:∀c,G c->G' c):?a1D G' M:=⟨⟨h.st.good,h.st.st,fun j hj=>hG _ (?a4J h.st.pg)⟩,?pQ,?l1⟩
theorem RU{n W r β:Nat}[?tY][?dQ](b:?IG)(hr:?b3)(hC:∀j,?aI->j<n->C ?eE)(hδ:δ<=β):BW n r r kt (β-δ) s.1:=fun k j h1 h2 h3=>by
 have:=b.2.2 k ?eE O9m (hC j h2 h3);have e:?cO=2 ^ (β-δ)*?hU:=?z5
 rw[e]at this;exact Nat.lt_of_mul_lt_mul_right ?F
def moveS(i s:Nat)(x:?bI):?bI:=(?Q x.1 i s,?Q x.2 i s)
def MK(p:Nat)(x:?bI):?bI:=(G9 x.1 p,G9 x.2 p)
theorem YY{n i s r:Nat}[?jI](hr:r<n):?uV<n:=?AN
theorem BB.move{n W β i s:Nat}[?CE][?jI]:?a0A β (moveS i s x) :=
 ⟨h.1.move hi hs,h.2.1.move hi hs,fun r c hr hc=>by show(?Q x.1 i s r c).natAbs*_<_;rw[move_row];exact h.2.2 _ c (YY hi hs hr) hc⟩
theorem BB.neg{n W β p:Nat}[?CE]:?a0A β (MK p x) :=
 ⟨h.1.neg,h.2.1.neg,fun r c hr hc=>by
  show(G9 x.1 p r c).natAbs*_<_;unfold G9;ext jO
  . subst e;rw[Bq,qc7];exact ?WX
  . rw[?g8];exact ?WX⟩
def insS(i spot st:Nat)(x:?bI):?bI:=if (?xK).1 ?d st<0 then MK ?d (?xK) else ?xK
theorem zH(i spot st:Nat)[?T]:?xD=?EI:=by
 ext Z7
 . ext eX;ext XU;ext eX;rfl
 . ext cG;ext XU;ext cG;rfl
theorem ZG(i spot st:Nat)[?T]:?xH=?VE:=by
 ext Z7
 . ext eX;ext XV;ext eX;rfl
 . ext cG;ext XV;ext cG;rfl
theorem BB.ins{n W β i spot st:Nat}[?CE](hi:i<n)(hs:?sF):?a0A β (insS i ?d st x):=by
 unfold insS;split
 . exact(?FK).neg
 . exact ?FK
theorem tX{n W w i β:Nat}[?nE][?eU][?h]{π b spot st:Nat}(H:?vQ)(p:?z3)[?XT](bb:?a0A (β+spot*?mU) ?aL) :
 VS n W w i G R0 B0 ?cT ?g0 ?xD ?xH ∧
 Pd n W w i ?xD ?xH ?cT 0 (?TV).1 (?TV).2 ∧
 ?EE ∧
 (∀d,?iV->?a0A (β+?oZ) (?a5C d)) ∧
 (∀d,d<=i->∀m,m<=d->?a0A (β+?oZ) (?N ?cT ?aO ?f7 (?a5C d) m)):=by
 have I:=p.ins H hs h0 h1 hW hG hpg hex;rw[←zH,←ZG]at I;have b1:?EE:=(bb.mono (by have:=qb6 (?mU) hs;omega)).ins ?c4 hs;have run:=a9 (β:=?zF) I ?c4 b1
 have up:∀d,?iV->?zF+?a1I d ?g0<=β+?oZ:=fun d hd=>by
  unfold Gg;have:=qb6 (?i*(i+1+?g0+2)) hd;omega
 refine⟨I,?_,b1,fun d hd=>(?u5).2.1.mono (up d hd),fun d hd m hm=>((?RT).2.2 hd m hm).mono (up ?dO O9m)⟩;have D:=(run ?i ?g).1;rw[qi4]at D;exact D
universe Lat
namespace Lat
open Hb
variable[?dP]
theorem W7{w m D:Nat}{T P:Mat}(h:Pe m ?lX T D):Pe m ?lX ?cI D:=fun i hi s hs=>by
 have e:(det i fun r l=>?z w T P r ?b7)=?wB:=Dg fun r c _ hc=>?vS ?Q8;rw[e];exact h i hi s hs
theorem In.cols{w n:Nat}{R R':Mat}{u v:?j}(h:?EK)(hR:?a2K ?hZ R')(hu:?QO):?a3F R' v:=by
 obtain⟨x,hx⟩:=h;exact⟨x,fun c hc=>by rw[←hu c hc,?e9];exact Ak fun k hk=>by rw[hR k c hk hc]⟩
theorem Ew.cols[?f0]{T T' S S':Mat}(h:?v0)(e:?a2K ?c1 S)(e':?a2K ?xV S'):Ew n w S S':=by
 obtain⟨r,t,hr,st,hz⟩:=h.st;refine⟨fun i hi=>(h.fwd i hi).cols e (?a3B e'),fun i hi=>(h.bwd i hi).cols e' (?a3B e),r,t,hr,⟨st.lt,st.inc,?gH,?a4,fun k j hk hj=>?_⟩,fun i c h1 h2 h3=>by rw[←e' i c h2 h3];exact hz i c h1 h2 h3⟩
 . rw[←e' j c ?c (by have:=?zQ;omega)];exact st.zero j c hj hc
 . rw[←?IL];exact ?ES
 . rw[←e' k _ ?c (?zQ),←?IL];exact st.red k j hk hj
theorem mO{n W w r i E π b:Nat}{e:Int}{T P B0 R B:Mat}[?cZ](g:?lK)(hW:w<=W)(h:?a1D ?lX ?cI)(hi:i<r)(hE:E<=?P)(he:e.natAbs<=?P)(hb:i*E<=?y)(hπ:π<=b):?a27 ?lX:=by
 have rn:=g.sq.rn;refine h.st.putD (W7 g.dets) O9m O9m (fun c hc=>O9m) (b0:=π) (?bJ) hE hb ?g hπ;rw[?sO];obtain⟨a1,a2⟩:=?a4K g.le i;omega
theorem Oi{n w r E:Nat}{e:Int}[?nE]{A Q T P B0 R B:Mat}[?cZ](he:0<e)(g:?lK)(K:?a12 ?e1 ?cI)(h:?a4Q ?e1 ?cI)(k:?L3) :
 ?DZ/\Ft w n r E e ?f5/\?a12 ?e1 R/\?a5A R (fun a=>R x ?dG):=by
 have s:?DZ:=?a2Q h.st.rows;exact⟨s,s.going he g,h.done K,h.st.told ?g (Pg k)⟩
universe Lat
namespace Lat
open Hb
variable[?dP]
theorem NC{n W w i D π b b0:Nat}[?tW][?h][?YJ][?ZW](hi:i<n)[?ZE]:?a27 (fun c=>c<W) :=
 h.putD hD O9m hi (fun _ hc=>hc) (?a3B hM) h1 h2 h3 h4
theorem S9{n W w i D b b0 β:Nat}[?tW][?h][?YJ](hB:∀k a,B0 k a=?I3)[?ZW](hi:?gK)(h2:?L7)(h4:b0<=b)(hβ:b<β)(hβ2:n+b0<β):BB n W (fun _=>False) 0 β ?aL:=by
 refine⟨?eD,fun r a hr ha=>?_,fun _ _ _ z=>z.elim⟩
 . have le:?XC:=by
    by_cases z:r<i
    . exact qa6 (h.rowD hD hi (fun _ hc=>hc) z hc) h2
    . rw[?s5 r c ?c];exact qa6 (?a48 hM) (De h4)
   exact qb8 le (qg6 ?M hβ)
 . have pM:∀x,x<n->∀c,pT n B0 M x c=M x c:=fun x hx c=>by
    show Al (fun k=>B0 k x*M k c) n=M x c;rw[?a2 (j:=x) hx fun k _ hne=>by rw[hB,?uU];simp,hB,?r,qd5]
   by_cases z:r<i
   . have:=h.backs hi (a:=a) (m:=?u8) (fun k hk=>by rw[?KA k a hk,hB]) (fun j hj=>by rw[pM a ha];exact ?DU) (?a2F ?DU) (fun _ _ j _=>pM a ha _) r z;rw[←qe1]at this;exact qb8 ?F (?wO)
   . show(B r a).natAbs<?cO;rw[?KA r a ?c,hB];have:1<?cO:=Nat.one_lt_two_pow O9m;split
     . ext a1
     . exact qu5 ?M ?F
universe Lat
namespace Lat
open Hb
theorem Fj(w:Nat)(R:Mat):?z w R (fun r a=>R r ?dG)=R:=by
 funext r c
 unfold beside;by_cases h:c<w
 . rw[?rN]
 . rw[?hW];show R r (w+(c-w))=?bP;rw[show w+(c-w)=c by omega]
theorem Rk.table{n W w r:Nat}[?tY]{hd:?j}{T T' P:Mat}(h:?a12 W ?cI)(hz:?mD):?a12 W (?z w T' P):=by
 have same:∀k c,w<=c->?z w T' P k c=?z w T P k c:=fun k c hc=>by unfold beside;rw[?n,?n]
 refine⟨?H8,?cJ,h.ge,h.lt,?nY,?Z,?J7⟩
 . by_cases z:c<w
   . rw[?vS z];exact hz j c h1 h2 z
   . rw[same j c ?c];exact ?PC
 . rw[same j _ (h.ge j h1 h2)];exact h.head j h1 h2
 . rw[same k _ (h.ge j h1 h3)];exact ?OZ
theorem Hm{n w w':Nat}{T T' P B:Mat}(h:?LB):F5 n w' (?z w' T' P) B:=fun i j hi hj=>by
 have:=?QK;unfold pD at this ⊢;rw[←this];exact Ak fun c _=>by rw[beside_hi,beside_hi]
structure Tc(n w r E L m:Nat)(e:Int)(A T P PB Q QB:Mat)(kl kr:?u)(hl hr:?j):Prop where
 e0:0<e
 going:?lK
 kl:Rk n ?e1 w r kl hl ?cI
 kr:?a1N ?d7 Q
 told:?L3
 dl:?a3G ?cI PB
 dr:F5 w n (?z n ?d7 Q) QB
 left:?H1
theorem Tc.next{n w r E L m:Nat}{e:Int}{A T P PB Q QB R RB S SB:Mat}{kl kr tl ur:?u}{hl hr:?j}{G G':?aN}(hL:?KY)[?ZO]
 (s1:Ci n ?e1 w r n G ?cI PB kl hl tl R RB)
 (s2:Ci w ?iE n r w G' (?z n ?f5 Q) QB kr hr ur S SB) :
 ?G0/\(¬?mB->0<m/\Tc n w r E L (m-1) e A ?r3 (?lT) RB (?m1) SB kl kr hl hr):=by
 obtain⟨a1,a2,a3,a4⟩:=Oi h.e0 h.going h.kl s1 h.told;have kr':?a1N ?f5 Q:=?a0F h.kr.table a2.sq.row0;have t2:?a25 Q:=fun x c hx hc=>U3 (T:=R) (P:=?z4) a4 x c hx hc;obtain⟨b1,b2,b3,b4⟩:=Oi h.e0 a2 kr' s2 t2;have st:?G0:=⟨R,a1,b1⟩
 refine⟨st,fun ns=>?_⟩;obtain⟨m0,lf⟩:=h.going.next h.e0 hL st h.left ns;refine⟨m0,h.e0,b2,?_,?_,?_,?_,?_,lf⟩
 . have:Rk n ?e1 w r kl hl (?z w R ?lT):=by rw[Fj];exact a3
   exact ?a0F ?oX b2.sq.row0
 . have:?a1N S ?m1:=by rw[Fj];exact b3
   exact ?a0F ?oX b2.sq.flip.row0
 . intro x c hx hc;show S c x=_;rw[b4 c x hc hx,Nk]
 . have d:=s1.st.good.dual h.dl;have:?W6:=?QH
   exact ?rX
 . have d:=s2.st.good.dual (Hm h.dr);have:?QS:=?QH
   exact ?rX
def one:Mat:=fun i j=>?qB
theorem Ui[?b1](T:Mat):?a3G (?z w T one) one:=fun i j hi hj=>by
 unfold pD
 rw[show(fun c=>?z w T one i ?pX*?yA)=fun c=>(if c=i then 1 else 0)*?yA from ?aD fun c=>by
  rw[beside_hi];show(if i=c then ?cR else 0)*_=_;by_cases e:i=c
  . rw[?bG,?m ?pM]
  . rw[?c9,?f ?hL]]
 rw[Dj (?a2C ?yA) i n,?zY];show(if j=i then ?cR else 0)=_;by_cases e:i=j
 . rw[?bG,?m ?pM]
 . rw[?c9,?f ?hL]
theorem OP[?f0](A:Mat):∀x c,x<n->c<w->A x c=?a0V (one x) (one c):=fun x c hx hc=>by
 unfold Pf
 rw[?a2 (j:=x) hx fun k _ hne=>by
  have:one x k=0:=?BK;ext cF]
 rw[?a2 (j:=c) hc fun k _ hne=>by
  have:one c k=0:=?BK;ext cF]
 have e1:one x x=1:=?r;have e2:one c c=1:=?r;rw[e1,e2];simp
theorem HA{n w D D' L:Nat}{A R RB S SB:Mat}{t u:?u}{G G':?aN}(hD:Pe n G (?z w A one) D)(zU:Pe w G' (?z n ?f5 one) D')
 (s1:Dx n ?e1 w n G (?z w A one) one t R RB) (s2:Dx w ?iE n w G' (?z n ?f5 one) one u S SB) :
 ∃(r:Nat) (e:Int),?b3/\?fA/\e<=D/\Tc n w r D L (r*?j1) e A ?r3 (?lT) RB (?m1) SB t u ?lL (fun j=>?x7) ∧
   (?MI)/\∀j,j<w->?x7<=D':=by
 obtain⟨r,hr,st,hz,K,pr,hd⟩:=s1.first hD;obtain⟨r',hr',st',hz',K',_,hd'⟩:=s2.first zU;have e0:0<?TH:=C8 (?a2F ?ES);have rs2:Ew w n ?f5 (tr ?r3):=?a2Q s2.rows;have g:=Wh.first (T:=A) hr st hz rs2 pr;have rw':=g.sq.rw
 have er:r'=r:=by
  refine qi6 ?eI ?eI
  . have p:=st'.pos r z;have:S r (u r)=0:=g.sq.col0 (u r) r (st'.lt r z) ?g O9m;omega
  . have p:0<S r' r':=g.pos r' z;have:S r' r'=0:=hz' r' r' ?g O9m O9m;omega
 subst er;have d1:=s1.good.dual (Ui n w A);have d2:=s2.good.dual (Ui w n ?f5);have tl:=s1.told ?g (Pg (OP (n:=n) (w:=w) A));have t2:?a25 one:=fun x c hx hc=>U3 (T:=R) (P:=?z4) (Q:=one) tl x c hx hc;have tl2:=s2.told ?g (Pg t2);refine⟨r',_,hr,rw',pr,⟨e0,g,?_,?_,fun x c hx hc=>?_,?_,?_,nZ.start g⟩,hd,hd'⟩
 . have:Rk n ?e1 w r' t ?lL (?z w R ?lT):=by rw[Fj];exact K
   exact ?a0F ?oX g.sq.row0
 . have:Rk w ?iE n r' u (fun j=>?x7) (?z n S ?m1):=by rw[Fj];exact K'
   exact ?a0F ?oX g.sq.flip.row0
 . show S c x=_;rw[tl2 c x hc hx,Nk]
 . have:?W6:=by rw[Fj];exact d1
   exact ?rX
 . have:?QS:=by rw[Fj];exact d2
   exact ?rX
structure Hh(n w m:Nat)(E:Nat)(A P PB Q QB:Mat)[?G]:Prop where
 mn:m<=n
 mw:m<=w
 diag:∀x y,x<n->y<w->?a0V (P x) (Q y)=?HY
 pos:∀x,x<m->0<f x
 zero:∀x,m<=x->x<n->x<w->f x=0
 prod:?bT<=E
 dl:F5 n 0 P PB
 dr:F5 w 0 Q QB
theorem bN[?f0]{T P B:Mat}(h:?LB):F5 n 0 P B:=fun i j hi hj=>by
 rw[←?QK];unfold pD;exact Ak fun c _=>by rw[beside_hi,qu4]
theorem Tc.diag{n w r E L m:Nat}{e:Int}{A T P PB Q QB:Mat}{kl kr:?u}{hl hr:?j}[?ZO](s:?mB):Hh n w r E A P PB Q QB (fun x=>T x x):=by
 refine⟨h.going.sq.rn,h.going.sq.rw,fun x y hx hy=>?_,h.going.pos,fun x h1 h2 h3=>h.going.sq.row0 x x h1 h2 h3,h.going.prod,bN h.dl,bN h.dr⟩;rw[←h.told x y hx hy];by_cases z:x=y
 . rw[?d5,z]
 . ext cG;exact s x y hx hy z
theorem Hh.share[?a07][?B](h:?U4){i j:Nat}[?D6][?ZV] :
 Hh n w m E A (?q ?l4 j i (-(b*f j / g))) (?q (?q PB j i ?C) i j (b*f j / g)) (?x Q i j a b (-(f j / g)) (?dN)) (?x QB i j (?dN) (f j / g) (-b) a) (?dX f i j g (?dN*f j)):=by
 have ne:?iR:=O9m
 have mn:=h.mn;have mw:=h.mw;have pi:=?Z i O9m;have pj:=?pI;have pg:=S.pos;have pr:=S.pair;have gz:?dN*g=f i:=Int.ediv_mul_cancel S.dA
 have po:0<?dN*f j:=by
  have:0<g*(?dN*f j):=by rw[pr.pr];exact ?r7 pi pj
  exact Int.pos_of_mul_pos_right ?F O9m
 refine⟨mn,mw,cB (?U9) ne O9m O9m O9m O9m h.diag S,?sM,fun x h1 h2 h3=>?_,?_,?_,?_⟩
 . by_cases e1:x=i
   . rw[e1,Sw];exact pg
   . by_cases e2:x=j
     . rw[e2,?fW];exact po
     . rw[?NX];exact ?Z x hx
 . rw[Kg f ?c ?c];exact ?aT x h1 h2 h3
 . rw[mD hij hj ?c ?c pr.pr];exact h.prod
 . have d1:=h.dl.add (p:=i) (q:=j) O9m O9m ne 1;have d2:=d1.add (p:=j) (q:=i) O9m O9m ?fL (-(b*f j / g));rw[qn7]at d2;exact d2
 . have B:=S.blend (π:=(f i).natAbs+(f j).natAbs) pi (qa6 O9m (qe2 qp9)) (qa6 O9m (qe2 qp9));have d:=h.dr.blend (p:=i) (q:=j) O9m O9m ne B.one;rw[qn7]at d;exact d
theorem Hh.le[?a07][?B](h:?U4){x:Nat}(hx:x<m):f x<=E:=qu8 (Y0 ?Z hx) ?u3
def Ww(n r:Nat)(kt:?u):?aN:=fun c=>∃j,?aI/\j<n/\c=?fP
theorem Rk.bits{n W w r β η:Nat}[?tY]{hd:?j}{M B:Mat}(K:?AU)(hη:∀j,?aI->j<n->?j3<=?h9)(b1:?a3Q β M)(b2:?E5)(hβ:η+1<=β):BB n W (Ww n r kt) ?k2 β (M,B):=by
 refine⟨b1,b2,fun k c hk hc=>?_⟩;obtain⟨j,h1,h2,rfl⟩:=hc
 have le:?LF<=?h9:=by
  have p:=?oI j h1 h2;have q:=hη j h1 h2
  have q':?WH:=by
   have:(?LY:Int)<=((?h9:Nat):Int):=by rw[Int.natAbs_of_nonneg ?c];exact_mod_cast q
   exact_mod_cast this
  rcases ql2 k j with z | z | z
  . obtain⟨a,b⟩:=K.red k j h1 z h2;omega
  . subst z;rw[?wT k h1 h2];exact q'
  . rw[?AZ k _ ?c hk (K.inc j k h1 z hk)];exact ?aG
 show ?LF*2 ^ ?k2<?cO;have e:?cO=?a4U η 1*2 ^ ?k2:=?z5
 rw[e];refine Nat.mul_lt_mul_of_pos_right ?_ (?UZ _);exact bA le
def Mx(π b η r n:Nat):Nat:=?dY+Re (η+1+?dY) η r (n-r)
theorem vQ{n W r β η π b:Nat}[?tY][?dQ](bb:BB n W (Ww n r kt) ?k2 (β+?dY) s)(hr:?b3)(hβ:η+1<=β):BW n r r kt (η+1+?dY) s.1:=by
 have:=RU bb hr (kt:=kt) (fun j h1 h2=>⟨j,h1,h2,rfl⟩) O9m;rw[show β+?dY-?k2=η+1+?dY by omega]at this;ext a1
theorem lX(π b:Nat){i r:Nat}(h:i<=r):?OR<=?dY:=by
 induction r with
 | zero=>rw[?a0O i 0];ext dS
 | succ r ih =>
   by_cases e:i=r+1
   . rw[e];ext dS
   . have:=?cS;show _<=?dY+Gg π b r;omega
theorem NF(c η r:Nat){d e:Nat}(h:d<=e):?JA<=?NK:=by
 induction e with
 | zero=>rw[?a0O d 0];ext dS
 | succ e ih =>
   by_cases z:d=e+1
   . rw[z];ext dS
   . have:=?cS;show _<=?NK+_;omega
universe Lat
namespace Hb
open PySem L2
theorem JH{g:TG}[?t7][?XL]
 [?XG]
 [?CH]:?a24 ?nN lY:=nO hn Pv h0 hl (fun i x y zs τ H p e1 e2 q hp=>?a42 q) hd
noncomputable abbrev big:Nat:=67108864
theorem xG:∃n:Nat,n=?yM:=?ML
def L9:Nat:=Classical.choose xG
theorem j9:L9=?yM:=Classical.choose_spec xG
theorem iK[?h3]{n:Nat}(hi:?D8)(hj:?IC)(h:9000+n<=134217728:=by decide):?kN:=Rs ?vT hj h
theorem CQ[?ZU]:?kN:=Rs ?vT ?NH ?M
theorem U1.of9[?h3](h0:j≠0)(h:?TK):U1 i j:=U1.of h0 (j9▸h)
theorem A86[?ZU]:(i*j).natAbs<2 ^ 18000:=by
 rw[qb1,show 18000=9000+9000 from rfl,qe1];exact qn3 ?vT ?NH
theorem wN{x π:Nat}(h:x<=?P)(hπ:π<=8999):x<L9:=by
 rw[j9];exact qb8 h (?wO)
def BO(n W:Nat)(s:Lat.Mat × Lat.Mat):Prop:=?LS n W big s.1/\?LS n n big s.2
def TA(H:Hp)(r:Addr)(as:?eG)(n W:Nat)(f:Lat.Mat):Prop:=as.length=n/\H r=?a17 (?i0)/\∀i c,?RL->H c=?a17 (VI W ?bV)
section
variable[?b0]{H H':Hp}{r:Addr}{as:?eG}{n W:Nat}{f g:Lat.Mat}
theorem TA.keep[?jG](h1:∀o,H r=?J->H' r=?J)(h2:∀a∈as,∀o,?RA):?EL:=⟨x.1,h1 _ ?rQ,fun i c e=>h2 c (qb0 e) _ (x.2.2 i c e)⟩
theorem TA.same[?jG](s:?hR):?EL:=x.keep (fun _ e=>s _ _ e) fun _ _ _ e=>s _ _ e
theorem TA.put{y:Addr}{o:HO}[?jG](h1:r≠y)(h2:∀a∈as,a≠y):TA (?a20 y o) r as n W f:=x.keep (fun _ e=>?a3D h1) fun a ha _ e=>?a3D (h2 a ha)
theorem TA.row[?jG]{i:Nat}(hi:i<n):∃c,?RL/\?a5B (?i0) (?o c)/\c∈as/\?a21 c (VI W ?bV):=by
 obtain⟨h1,_,h3⟩:=x;have e:=qa0 (l:=as) (i:=i) O9m;refine⟨as[i],e,by rw[qa9,e];rfl,qe0 _,.of (h3 i _ e)⟩
theorem TA.rep[?jG]:?a3P (?o r) (dT n W f):=by
 refine GL (us:=?i0) (.of ?rQ) (by rw[qa4,x.1]) ?o0;obtain⟨c,_,e,_,h⟩:=x.row (K:=K) hi;exact⟨c,e,h⟩
theorem TA.there[?jG]:H r≠none/\∀a∈as,?w9:=by
 refine⟨by rw[?rQ];exact(fun z=>nomatch z),?HZ⟩;obtain⟨i,hi,rfl⟩:=qg4 ha;rw[x.2.2 i _ (qa0 hi)];exact fun z=>by cases z
end
mutual
#check(5,[?a,?b,some,.int,(?uU),.ref,.inl,spot,∀(K:W.Frag),a,if_neg,.inr,.lst,decide,Nat->Int,Nat->Nat,?U V,if_pos,(?aS),.(by decide +kernel),.(by ext s),?U Str,(n+1),(?lV),(i+1),?f a,(pv 0),min n w,xs.getD,G σ H,∀{G:?t8},a,(w+n),?U Int,∀(φ:?mQ),a,none,?q rfl,?K H H',Same,∀{K:W.Frag},a,Lat.Mat × Lat.Mat,G σ,∀{G:?YT St},a,beside,?j ?e,.tup,base,Ay ms k,List,this,absurd,ms.map,(pv 1),(k:Int),(xs:Aq),Bits,(k+1),V.int,qa8 _,?YT Hp,?WV ms,?A*?eE,?f p,.(by ext aE),?j h,(fun _ _=>rfl),.(by intro z;cases z),∀(CL CS CW:Addr),a,.(by simpa using h1),F.okZ,Int × Int,fun Dp A outer s H vs Q E hr h=>?_,FnScope,∀(T:Fr K mg Ag Ac Aj Aw),a,∀{f:Addr}{fd:FuncData},a,∀{ms:Ms}(h:?bA),a,∀(f:?n),a,.(by rw[Bu];omega),(pv 2),sumN_one,(?g9),face,qa1 _,?d i,Q ?eJ H',∀(xs:Aq)(k:Int),a,∀{H H':Hp},a,H D=none,(LT K H (?y) xs),(zs k),(k+i),(?xM),?q h,?c v,?c o,.ins,∀(_K:W.Frag),a,s.heap.objs.size,?q z,2 ^ b,nd ms,?q e,qa2.mp,?d k,2 ^ π,_::_,ks j,?f b,?kA ?sW ?hN i,wpAny,z.symm,mulV,a.fdiv b,.(by exact this),sumN_all0,(j+1),Q (?eG) H',?c ?K0,(by ext aC),Mat × Mat,.none,F2 fs e i,(?c0),Dy xs k,bookF,qd6.mp,.(by decide),∀(s:?M),a,∀(ls:?eF),a,∀{A0:Type}{S:A0->St},a,∀{f:?n},a,(?h9),fun z=>?_,Nat->?n,Same.new,?j z,IntMulOk,(Bk _),?U Bi,(i:Int),∀{xs:Aq}(hs:?dZ),a,.(by split<;>omega),∀(lf:?f2),a,∀(ps:?cC),a,∀(t:?o),a,∀{lf:?f2},a,xs.length,?OW c 0,(a b:Addr),(pv 3),(n:Int),(H0:Hp),cK ms,(xs.length:Int),q.toNat,(?cO+1),?j q,(j:Int),dets,[(p,1)],?j e,(ms:Ms),?f c,?Y5 ?eA,G s H,∀{A0 A1 A2:Type}{S:A0->A1->A2->St},a,∀{A0 A1:Type}{S:A0->A1->St},a,∀(fs:?F)(n:Int),a,∀(xs:Aq)(ms:Ms),a,∀(s:?J),a,∀{vs:?p},a,.(by exact ?aS),∀{D:Addr},a,(Bh (K:=K)),s.heap,sg j,"number",.(by grind),?s9 m 0,Gx n lf,(σ=?sD),(k+j),wk.e0,Lat.Bits,"place",H' D,fs.lookup,p.1=k,?U α,(a:Addr),?kA f k0 i,(0:Int),i<?bG,Lat.turnL,BB.bo,(?f e),IsEnum,Ck xs,.(by rw[qa3,?h8]),∀{vs:?p}{ps:?cC},a,∀{xs:Aq}{k:Int},a,.(by simpa using e),∀(n w:Nat),a,∀{α:Type},a,?j h2,?j h1,r<=j,(by ext aN),p.toNat,p.2.2.2,?d n,lookI,(π+2),?U (?cC),?f D,B a c,"enumerate",.non,(by kernel_rfl),(v:V),?q h1,"row",(t j),?k h,p0 x0 x1,(w+a),x.ne,Option.none,Il ms k,(O9m),(?m9),lf.getD,(?nD),(2*n+π+2),(r+1),p::ps,?U Ms,fs.getD i 0,(?m1),fun D hD=>?_,(?wJ),(?iX),(?NR),qa0 hj,(d+1),∀(t:?QU)(E3:?m9),a,.(by refine ite2 (fun h1=>?_) (fun h1=>?_)),∀{ls:?eF},a,.(by infer_instance),∀{ps:?cC},a,∀(i j:Nat),a,qe0 _,qh2.mp,ns[i],(η+1),?ZI p0,Heap.SameBut,"rows",small,k<=j,x.sm,(?P w T P),(?nN),?YT Addr,qa0 O9m,?q h2,Ed K H a xs,Lat.one,p::ms,(hd j).natAbs,t ?h,p.2.2.1,π+1,?c ps,(p j),c<w+n,ns.length,(fun _ _ _ _=>Cf),A0->?a5,.(by simp),(?PH),?q ?e,"table",?c q,?q q,(?bX).length,spot<=i,(?J2),(Dh xs ms),∀{t:?o},a,∀{u:?n},a,∀(n W:Nat),a,p.dπ,p<?cR,(s:?M),Xv n i,fun z=>O9m,x.nu,φ p.1,?ZI p2,(n W:Nat),(?lE),spot<i,η+1+?jV,0<=p,fun b hb=>?_,beside_lo,insAt,Rc ps,qa0 hi,?dT+?cV,Al (fun a=>?PX*?uO) m,fun _=>0,?hQ hi,qa0 ?e,Do xs k,e.symm,(?w3),G i a,(?ZN 1000),fun j hj=>?_,Do xs ?qT,2*(?t0),(us:?p),(?ZD rfl),(?fX,Lat.one),"shape",(?qV ?eA []),β2+(?a7-m)*?j3,(?bG),this.1,(?mY),qe6.mp,let s:=(S x0);?d2,List.range,(p0 x0 H),(k-1),?eD ms k,p0  x0 H,?f t,["thing"],(n w:Nat),R l c,.type ?w1,?X5 p0,(kt j),vs[i]?=?b3,B6 H vs ps,Rep.same,st.lt,s l-w,ih O9m,(Ds xs p),"backs",p0 x0,?U Addr,insS i ?h st s',Cu.nd,p1 x0 x1,?q hi,?T+n,(?UG),(p r),(?k0),(?k ?hI),Mp E3 _ _,putI,fun p hp=>?_,P i j,?K H H1,Rb (?d1) e,?X5 p2,Nat->?p->?t8,Lat.shrS,(r x),zs j,F2 fs k i,?ZC Cg,nd ns,?X5 p1,i<k0,(2*w+π+2),∀{sp ns:?F}(hl:ns.length=sp.length),a,∀{f:?n}{l r:?M},a,.(by unfold nd at h;rw[qc5,qg9]at h),∀{xs:Aq}(h4:?q1),a,∀(l r:?M),a,.(by rw[?Q]),∀{a:Addr}{xs:?p},a,∀{hl:?eF},a,∀(E3:?m9),a,.(by simpa using this),∀(D:Addr) (H':Hp),a,∀{q:?aG},a,∀{fs:?F},a,∀{v:?n},a,∀(vs:?p),a,∀{O H H':Hp},a,∀{v:V}{p:Bi},a,∀{ms ns:Ms},a,σ=?zV,Nat->?t8,Value,p.1=1,?x6 i c,PB i b,HT.sIx,MD (?vX) n,Lat.addS,Ej π b r,let s:=(?sD);?d2,Do xs ?a2,A0->?a1U A1 A2,(p1 x0 H),Do xs ?Z,Jq ?c5 v,let s:=?sD;G s,ms.length,(?KS).length,2 ^ π2,(?a4),its.toArray,let s:=?zE;G s,?pS i (0,0),Lat.numAt,(lf i O9m),(?a19 p0),qe6.mpr,Ig H v p,(l r:?M),Wi r b H H',β+(?a7-m)*?eZ,(w-k),A0->A1->A2->?a5,?pS i 0,s.1 i (?g0),?AS n w M,?bI=1,R j ?eO,(?UO),[?d a,?d x,?d y],(lf j hj),x.2.2,?ZI p1,Ea xs ?Z ?aZ ?z1 ?oY ?p0 ?wQ (lp k) (rp k) i,Option,Nat->Ms,(mC p q),.(by simp;omega),Ay ms j,"chain",(Bc (K:=K)),Cp ?e,(?A),sp.map,.of Ab,?Y6 p0,(?kO).natAbs,C6 ?oZ,sp.length,(vs=?MO),?bZ hp,(?mT),?WV (?eX ?cS []),?iO ms k v,s.heap.objs.size+1,(t k),?YT ?M,(?f3),if ?qN then x k*T k c else 0,ns.map,st.inc,SQ ms,(?dZ),.(by ext e3),(rp j).1,?cV%2,s1.seq,?Y6 p1,Lat.sumN_all0,s.1 i c,.(by rfl),(T i c).natAbs,?a1U A0 A1,?YI (fun k=>?NQ),?c8 hD,(.dK (?cQ)),σ=S x0,?WO zs,O c=none,(H a=?oW),?WU S,qh9 ?e9,(Dz ms),Du ms,?ZM 40,π<=8990,?kV V,b≠e,Cc ?cK ls,x c*T c c,?j ne,(?a19 p1),?c p,wk.going,(fun c=>?g5),v::vs,(?QS),?d p,(Ne.symm ne),(?vP),(fs.getD j 0),Int->Int,(gT m G B),(qf4 _ _),fun y x=>M x (s y),(?U3),(H b=?oW),IteT K a,p1  x0 H,σ=?zE,0<=p.1,(σ=?yG),∀{A0 A1 A2 A3 A4:Type}{S:?Z7 St},a,∀{A0 A1 A2 A3:Type}{S:A0->A1->A2->A3->St},a,∀(hD:H D=?bR),a,∀{P:Program}{w:World},a,∀(x:?LT),a,∀{ms:Ms}(h:?nZ),a,∀{q:Int}(hq:0<=q),a,∀(fs:?F),a,∀{CL CW:Addr},a,∀{l:?F},a,?WO ys,Do xs ?hU,Lg xs ms i,(i<n),(kB n+6),?Y6 p2,Cg xs ?Z ?aZ ?z1 ?oY ?p0 ?wQ (lp k) (rp k),(?k (?k z)),"__init__",hl[j]?=?g3,?K H0 H,fun x=>M x (s 0),Ho ms fs n i,?Y5 ?oP,Mt n p,s.heap.IsTuple,fun _ z=>?DC,ps[i]?=?mH,(p L R nm:Addr),fun i hi=>?_,Q ?b0 c,ps.map,?d v,Dy xs ?hU,nz ms,(kB n),(vs=[v]),(M:Lat.Mat),dg.pos,Fv f n,insT t ?h ?rX j,(?uD),Ef hp,TI.get,F2 fs k j,.str x,Mv n l,"width",((?q1)),2 ^ i,(?Z+1),if k=j then 1 else 0,.(by simpa using h),(?wW).2,List.replicate,?X5 p4,(x k).natAbs,h.zero,(0:Nat),(?lO),p.1.toNat,?o9+1,(n-r),(vs=[?a8]),(p2 x0 H),(fun _=>False),Cb ?aQ,?c ?m0,(W<=1000),(Ls k),(?d1).length,(Gs k),Gg π b i,Ee Gs _ ?e,Lat.Shares,?P w T P k c,turnL,Dh xs ?cX,2 ^ 10,[?d (a-?bM*b),?d (x-?bM*u),?d (y-?bM*v)],(?s5).2.2.1,xs[i]?,.type ?eI,(l.map F).sum,(ns.take ?x),qg6 ?bW O9m,(?fY),"list",(?c (w:Int)),"other",Nat->(?n)->?ED,?ZI p3,p.getD j 0,qd3 ?r,?bZ hm,(upd H D o),(?nY).getD,?XV (?C0),st.pos,ns.getD,2 ^ ?v,p.getD i 0,(if ?bI=0 then [] else ?L3),?g k,SameX,?a0X η n,(vs=[?y]),Dy xs ?Z,∀x∈xs,x.length<=4,(j:Nat),Do xs 0,A0->A1->?a5,st.zero,(fun _=>none),Ww n r kt,prodN,?uC j 0,?c ?PI,qb7 ?_,(?gX),(k,v),M i i,.builtin,(?a7),(t:?o),(m+1),(?bX).zip,(?kT),(?zK).2.2,?f ?b7,c+1<=k/\k<r,?rD b,(Gs j),?jO->?xA,?XW p,Al (fun i=>mC p q (?kU)) ?aZ,(?s2),(?k9).1,(?mD).getD,qf2 ..,false,?a1E p0,y k i,p2  x0 H,(?a0Y k u),(?XI ?z Am),(?yZ),QB y c,Oy O H v p,(1:Int),s2.trans,bs[i]?,(M:?fT),q.symm,let s:=S x0;G s,ns[i].1,.bool,hp.objs.size,(p q:Addr),Kp H H',b.2.2.1,p2 x0 x1,Al (fun y=>?yU*?r4) w,(i-r),["piece"],(insT t ?h st),qc6 ?e,(?fL),Ee zs _ ?e,sumN_cut,(?a2C Fp),qd6.mpr,this.2.1,fun k=>x k*T k c,K6 ps i,(n<=1000),(?AD),zt1 ?dC t,Q y c',?bZ h,st.red,?cV+1,PB k a,(fun k=>?oL),Ea xs ?cV ?f7 ?hN ?w7 ?qP ?sW ?x7 ?yC i,?ZW n,Ay ?gH ?mP,Ay (?L3) q,sp.getD,∀j,j<i->t j<w+n,?kV ?x8,lx.nb,?ZI S,?X5 p3,?pX p H H',Rd H a ?m0,(z▸hN),lx.nr,?hS n,⟨?lZ,Ab,rfl,?H,rfl⟩,.(by cases h),(?KS),ms[i],fun k hk=>?_,(?k (?g z)),op_mulX,?ZJ p0,β-?fK,?s9 i 0,let s:=(?zE);?d2,(?kL),(fs j),f.toNat,?U ?jO,Ay [] k,?cD%2,fs.length,K.zero,(fun a=>a=nm\/a=r2\/a=b2),(?H8 t ?h st),v ?lG,p.π9,?ZI p4,St->?a5,?g h,(?a19 p2),fun q hq=>?_,V r l,.(by simpa using hb),p1 x0,wk.kl,Nat->α,?bI*?jQ,fs j i,Ee Ls _ ?e,(model prog w),∀(xs:Aq)(k:Int)(z k0:Nat)(L G:Lat.Mat)(f:?n)(l r:?M),a,∀{C p r b:Addr}{sv:?mB}{n W:Nat}{s:?M},a,∀{ns:?F}(x:?DY),a,∀(hp:?X0 C fs)(sx:?sF),a,∀{k:Nat}(hk:k<4){p:Int}(hp:p∈?q0),a,∀(s:Np b H H1)(hb:H b=?c (.dK m)),a,.(by rcases h with(h|⟨o,h⟩) | h),.(by rcases ?vM hb with rfl | hb),∀{p C dx:Addr}{fs:?U (Str × V)},a,∀(x:?vD),a,∀{kt:?o}{hd:?n},a,.(by revert τ;refine Na ?_),.(by split<;>split<;>omega),∀{f:?c7},a,∀(h:Cy O H vs ps),a,∀(h:Gd D H vs ls),a,∀(h:oF H E vs hl),a,∀{ms:Ms}{k v:Int},a,∀{N:?fT},a,∀{ms:Ms}{k:Int},a,kM f k0 z,T.n_isinstance,U m M l r,f i∣f j,hl.getD j [],(?bC hi).1,s.eqv n ?r,(?bX).getD,?a0Y k v,nd ?g1,Fv g n,Ak ?zH,?kD O9m,e.natAbs<=?bE,(R k ?lG).natAbs,?YK K.pos,"__ne__",a∈as,Al (fun a=>v a*?PG) w,B a c',Fk O H vs lf,r.length,A0->A1->A2->?a1U A3 A4,?c8 hp,(?OR+1),.(by omega),2 ^ η,t.lv k hk,x.lback,Pv i σ H,if a=b then 1 else 0,β+?p1<=big,qc6 hi,Lz O H hd hl,?a18 p0,⟨k1,g,d,tk,os⟩,fun _=>rfl,bs.any id,B6.put,.(by rw[Bg]),(?iN).n,?Y5 ?sX,Fv ?s4 j,?YI (fun c=>Al (fun l=>(RB l a-?lY)*R l (w+c)) n*RB i c),?ZE H N,Lat.blendS,⟨_,rfl,q2⟩,(Rc (?iZ)).map,?v6=true,?YI (fun k=>?qZ*?s3),qi0 _ O9m,fun a ha=>?_,[none,?c 1],qc0.mp,fun m hm=>?_,["a","one","b",?pI],Jb ms k n,(KW e),[?d (-a),?d (-x),?d (-y)],rawInt,?X3 Cg k,0<=q.1/\?yR,x.rback,0<=g.1/\g.1<?cO,fun r=>B ?f0,fun z=>?DC,fun x=>M x x,(?fI hp).1,"tuple",Bw P w K mg ?S Ex k f fd ps sp,sp.zip ns,X.prog,(M9 e),(sv:?mB),(Ls j),BO n W s,⟨?lV,?lV,?lV,?lV⟩,(!(ms.length==ns.length&&ms.all fun p=>?m (?eD ns p.1=?c p.2))),?dT+?cD,Mv w r,xs[f.toNat]?,x.left,Ie W ?HR st,[e,it],i<=ms.length,Al _ i,qc9 ..,b.2.2.2,Mv z ?yH,Str->?kV ?jO,(?c M),?YT A0,?Y5 i,(fs k),∀j c,?fP->j<w->c<w->(r.1 j c).natAbs<=?AB,Lat.downS,?aR xs (?YQ ?qV) (?cL),?U (?aG),K.head,ms.getD i (0,0),qe9 ?bW O9m,(L N:Addr),DK i*(?b9) ^ i,?U Bool,K2.st.good,wF ?UM ?iA,?d (w:Int),Pv ?x,c<=k/\k<r,(rp j).2,(lp j),Lat.Mat,⟨rfl,rfl⟩,?YT Shared,(ps:?cC),[?dE,?l0],"left",s.1 j (?o5),H a=?bR/\?N6,?p3 (f i) (f j) g a b,2 ^ d*?uT,qf3 ..,D<=?bE,2 ^ β,U m M' l' r',spot+1,.(by rw[qc3,qc3,h0];rfl),(ls:?eF),H a=none,?FW->h'.get? b=?b4,Lat.EuI,{ cls:=?pB,data:=.fields #[?bU,?rD ?qX,?qM,?vS 0,?bU,?bU] },fun x=>M x (s y0),F.binds hb,(f:?n),?j ?V,x.right,["self",?dM],P' x a,?q h.symm,i<sp.length,["spots",?l0],Ej π b i,.(by rw[Ai ne];exact h),y.length-1,fun k=>B k a*R k ?eO,?YK ?wV,x.same.trans,?fO ?e9,p∈?bX,["self",?fN,?iB],(rp j),(uk:?p),2 ^ bookF,?ZW d,?X5 S,(P,PB),?Y6 p3,?Y5 ?BD,α->Int,2 ^ 9000,w6.extBut,(?f C),MD B n,eE K C B p xs ls,?XX p0,q.1<?cR,Lat.ChainTo,Mv w (Q,QB),?XU ?rZ,∀p∈ps,?EE,?IB Kc lf,b2 a ha,?bL w ?mR (Q i) b,s.1 ?h (?g0),["size","i"],(ks k),(i-?b1),j<=spot,(i:Nat),?YT Nat,"starts",β+?jV,Ak ?nU,Array ?jO,Vk xs k n,Kc lf ps,?R ds,fun x a=>R x ?eR,S x0 x1,L j ?iK,?bL w ?mR v i,fun i _=>?_,Rb [x,y] e,(u1 Nu),a2 a ha,I ?h s',?j hj,hasDict_toPDs ds,DK n*2 ^ n,kP ?nF ?l3,bs.map V.bl,n+b0<β,?l ds,[?gC,"j"],w5.extBut,?a0L S,let s:=?yG;G s,.(show k+1-1=k by omega),φ a ((?d1).getD j 0),?bL w B (Q i) a,IsEnumOut,h.diag,JI E3 _ _,x.same _ _ e,Uy k w Q p,g.1.toNat,Jb ?fS ?lI (?gP),I ?h s,"dict",?dN=?bR,(o4 o5:?mB),2 ^ b2,t.lv j O9m,kt ?h,w7.extBut,downS ?rM i (?iE) ?x,"right",kk b o (cQ b hb).1 (cQ b hb).2 z,?iO _ _ _,s1.free,Ay ?m7 k,T.n_range,(p:Addr),if ?dP then(p.1,v) else p,Q (?C0) H,Al (fun k=>x k*?P w T P k ?i3) j,.(fun M' e=>by cases e),fun x hx=>hk x (qb9 _ hx),Lat.Straight,2 ^ (?S2+zs k),i*n.natAbs,.(by rw[Lr]),qc1 _ rfl,fun e=>?_,?c (?y),?YI (fun k=>?s3*?p4),[?d b,?d u,?nX],?x8->?ED,5*k+k*k,F1 (Jb ms p.1 p.2) ns,s1.trans,A0->A1->A2->A3->?a5,(L r ?iK).natAbs,ED n w i j f l r,?XP v y,p3  x0 H,let s:=(?zV);?d2,?ZJ p1,Al f a,q.1.toNat,f i / g,.(by simpa using z),Hi _ _,OB i M,?a20 v p,Di m z L p,(N:?fT),2 ^ ?oR,"bool",k D H1 hD s1 El,(qb0 e),Lat.beside,spot*?BW,?o4+f n,qe0 hj,b0<=π,vL k fun j=>?RY,(D:Addr),cM π i,i<vs.length,if q=p then 1 else 0,(0<=k),.bl true,∀(st:?BJ)(hB:?PQ)(b2:∀q c,q<m->c<w->(B q c).natAbs<=2),a,∀{zs ks:?o}{Ls Gs:?SA}{fs:?c7}{lp rp:?T0}{ls:?eF},a,.(by obtain⟨dx,fs,h1,h2⟩:=x.ob;obtain⟨as,a1,a2⟩:=x.rw;obtain⟨bs,b1,b2⟩:=x.bk),∀(ge:?ZH ?dC n)(gj:s.heap.IsTupleIter j t n)(gt:?PU),a,∀(h:Lev q m z D L G)(tw:∀c,c<w->?YC (fun a=>?eH)),a,.(by have e:?wW=?sN:=?HP),.(by obtain⟨y,hy⟩:∃y,xs[p.toNat]?=?c y:=?T7),∀{A0 A1 A2 A3 A4 A5 A6 A7:Type}{S:?XD St},a,∀{p L R nm:Addr}{n w:Nat}{M:?sB}{l r:?M},a,.(by refine(?YL pr)),.(by obtain⟨tv,dx,fs,hp,l1,l2,l3,l4,l5,l6,l7,_⟩:=x.ob),∀{xs:Aq}{k:Int}{ps:?cC}(h:Uz xs k ps)(E3:?m9),a,.(by have ey:?d1=y:=by rw[qa3,hy];rfl),.(by wp_walk using wpAny_loadPart' q1,qm9 gt),.(by obtain⟨z,k0,L,G,f,l,r,bl,rfl⟩:=h),.(by obtain⟨its,rv,p,hz⟩:=I.tuple hq),∀(K:?Q5),a,.(by rw[←Bg];exact Ak fun c _=>?qW),∀(dg:Hh z w k E ?mR P PB Q QB f),a,∀{st:Stmt}{ps:?u}{k:Nat}{sp:Sp},a,∀{e j t:Addr}{n:Nat}{vs:?z9},a,.(by obtain⟨q,hq,rfl⟩:=?lB),.(by rw[?j (?XG ne),qg3]),.(by have z:b=it:=?tD),∀{mg:?wM}{base:Heap},a,∀{prog:Program}{w:World}{A:Around},a,∀(x:?OY),a,.(by have mn:=dg.mn;have mw:=dg.mw),.(by rw[?Q,z];omega),∀(ns:?F)(lo hi:?kV Int),a,.(by rcases ql3.mp hp with h | h),.(by unfold lev at la;simp at la),.(by unfold lev at lb;simp at lb),∀(spot i:Nat)(A B g a b:Int),a,.(by exact ?pE),∀(tp nm r1 D1 D2 b2:Addr),a,∀(he:?uI),a,∀(D:Addr) (us:?p),a,∀(hl:?eF),a,∀(g:?NH),a,?XF p2,s3.trans,(p4 x0 H),CU t E3 hk hp,?NB<=?OR,h'.objs.size=?lF,D.nx σ H,.(by cases z),Hh n w k E A P PB Q QB f,"is_straight",⟨c,e1,e0,e2⟩,"pieces",?a1Y ?i0,det n (Xj (Gq A ?x) j),?WE p8 R9,fun j _=>?pR j,?bX++Dy xs l,putF ?iB b (putF ?fN r []),Al (fun i=>?jQ*?lP i d) ?hN,H c=?b4->((∃l,o=?R l)\/∃l,o=.dK l)->H' c=?b4,?YI (?rU),q.1∈Dy xs ?oF,fun x y=>M x (s y),show ?bI=0 from ?aA,?a1V 1,?X7 H',H b'=none,?P w T P i c,Ed K H1 a xs,?WR H M,(?iX-?bG),?gX+?rK*?fK,?YI (fun k=>?lJ),i=vs.length,x a u n1 n2 e,⟨_,ge,rfl⟩,?WE p1 R9,?YI (fun j=>?dD*?a25 ?zY m),let u9:TS:=At t9 oO;?PN,qH φ q p,?d n tk,LM K R vs H1,?d (n*p.2),let u2:TS:=?Q4;?O5,?M->?lH,Mt ?cK p,qa6 bl.zm (?TI),(ms.any fun p=>?m (?dP))=true,?WE p5 R9,Hh n w k D A l.1 l.2 r.1 r.2 f,Nat->?B1,(Ll ?sO),Ab4 n W i t s I,"isinstance",fun j h1 h2=>?_,(z▸x.mq),m<sp.length,h.2 i v e,U0 ?dC a ms,"levels",?pR j hj,s _ _ (fun z=>by rw[z,hb]at h;cases h) h,let u4:TS:=?PS;?MU,gT m G B a c,bl.fin.dg.pos,hf it ?aQ,?a20 v ps,upd G2 pr (?R [?d j,?d (M i j)]),["one",?pI],⟨fun i t s hi hJ=>?_⟩,sx _ _ (Fh h hp ?bS) h,?YK h.ge,A.natAbs<L9,if j=i then 1 else 0,hk k O9m O9m,?KN=true,?a1T φ,(Pi xs k i j).natAbs,K1.st.good,?yS k0 k0 f,∀x0 x1,?k8,?dL z ?c5 ?bY G,insAt_get,t.nx j O9m,AZ mX hs,Gx.first,[?l0,?dM,?dE],fun y a=>u1.1 y ?eR,Tg ?bP*A 0 ?bP,.(by rw[e]),?Y9 H' ?eT,?iY+1-?hG,Tg ?x*A ?x 0,hs ?eA y hy,l[i]?=?c b,i<=xs.length,∀x0,?rB,fun a=>f ?eR,(vs++[v]),?RK b=?b4,h4 x ?BO,?a0L p2,⟨(?ZD h),?hO,?rT⟩,h.2 j v ps h1 h2,?bJ ?tK A (pyNext ?dX) Q E s,?YY (fun c=>c<w),Bool->?a5,fun i=>r.1 (k0+i),(?rY).objs.size,?a0W n,gp _ _ D7,.(show ?xM-r=(spot-r)+1 by omega),Ay ?gI e,?X4 p3,?a00 h1,"_law_words",let u5:TS:=?TU;?EV,hP i (c-w) hi O9m,if b=a then 1 else 0,?WU p1,let s:=S;?d2,.(show(?wB).toNat=i by omega),fun j c h1 h2 h3=>?_,B j a*?kO,T.n_tuple,(?YD (s' y)),(Uv _ n),?WE p4 R9,vL k fun j=>?DN,"quotient",bootBuiltins,?iO ?gH ?mP (?s7+Xv n j),Builtin.Dict.addrOf,det n (Gq (Xj A ?bP) i),hp p ?f6,?jS ?g6 0 lo,{ s with heap:=h',toks:=?P7 },i<=ns.length,let s:=(?yG);?d2,qe8 _ O9m,List.Nodup.sublist (qt6 _ qq3) h,?W h O9m,?a6=?a6+n*0,Reps.x s hb r,Al (fun j=>?zF*Z j l) ?f0,as.drop k,Y k d f l r,Lat.insT,∃p,Uy k w r.1 p,?X4 S,?YI (fun x=>PB x b*?LI),.(show ?s2-1=j by omega),?aR b ?aQ,Q (?f L) H',Fv (a (c+1)) n,.(by rw[Ai (T8 b _ z)];exact z),⟨?hO,?rT⟩,h.told tw,?a0F (spot-r),CY ms p.1 p.2,Rb (?B (?q9).toNat []) (?pP i 0),?WE p6 R9,?WU p0,?XA cnt s',.(by ext e0;rfl),Fk O H' vs lf,(s'.1 i),U0 ?dC b ns,Eq.trans,Al g ?v,?a0L p1,.(by unfold one;ext CN),Jq ?c5 u,(?fI h).1,"add_at",(A i c).natAbs,[?dM,?l0],hk ps ?f6,fun Mh=>Mh _ _ ?x9,fun i j h1 h2 h3=>?_,?WI p2,?XF p1,?YP f ?b0,⟨?C0,H,I,rfl,q⟩,vs.length=ps.length,det k (Gq (?GM) i),ls.foldl,if ?dU then ?jQ*?s8 else 0,(?PH).length<=?a1V ns.length,Bo X Ad σ H s,t.1∈?d1,?MS (lift1 fl) lf,let u4:TS:=?PS;?UJ,Al (fun i=>?dV ?aZ (lp k).1 ?p0 i c*?dV ?aZ (lp k).2 ?oY i d) ?aZ,?dO m=none,F2 fs f i,(?vA).length,Nat->?lH,?pY=?jV+?S9,LX H CL R r2 b2 ?H w w r ?mU,Fv (a 0) r,gT m G B b c,{ cls:=?i1,data:=.seq #[?E9,x] },zB φ q ps,Nat->?a1U (?o) ?bT,(?ZD hL),congrArg,det i (FP V Z i),(ls.map (zB φ q)).sum,fun r l=>?P w T one r (s l),h1.trans,qh8 _ ?e,?a0F (i-r+1),m8 ms fs n j,?a7-(m-1),?Y6 p4,?q8 (fun r=>f ?f0) m,fun r c _ z=>z.elim,z9 _ _ z,hh d ?e j ?e,vs.length=ls.length,Nat.log2,z9 _ _ hc',b'*f j / g,I.ok.hd hc,fun T1 hT1=>?_,Al (fun y=>?r4*?rZ) w,Dy xs ?a2,"numbers",Kc (Qf lf p) ps,∀x,x<k0->0<f x,(?wW).1.toNat,∀j,j<i->(s.1 j ?eO).natAbs<L9,⟨_,rfl,rfl,_,rfl,?_⟩,[?dM,"old",?dE],(ns:?F),?N9 j t ?v,?t0=0\/?t0=1,s1.turn hD,?YI (fun u=>Al (fun a=>?xZ*PB u a) n*P u c),"start_of",b1.same e,k2 ?b1 ?r,∀[?e1],?i5->B6 H' vs ps,upd G p (?R [?aT,?bH]),?h1 k y xs,fun _=>?hJ,(?l us),?a1V i,s1.heap.objs.size+1,(?g ?hI),S x0 x1 x2 x3 x4 x5,?dL z ?c5 ?bY L,qb6 _ (Nat.sub_le _ _),Vk xs k ?v,VR n w A D,(b4 a ha).2.2,t.lv j hj,?WE S R9,Pe n ?mJ (?P w A one) D,Pf n w A (P y) v,Al (fun b=>P y b*(?MV)) z,BB n ?E (?q7) (?sS) (β+?y3) s,w2.extBut,(?bC eg).1,if i=y then f i else 0,ha.typeIs,Cy ?q6 H uk ps,let s:=(?m5);?d2,g.sq.row0,sameC ms ns,Nat->(?o)->?lH,∀a∈?LE,?uM,?q8 f ?qI,φ (?sT),?Y5 ?JK,JQ D nm r1 D1 D2 b2,BW n r i kt (?E0) s.1/\BB n ?E (?q7) (?sS) (?z7+?NF) s/\?JL,?WI p0,this.2.2,K2.st.st,p3 x0 x1,?XF p0,?bL w B (Q ?b0) x,.bl (?v6),p4  x0 H,?a0Y ?qT (?lP i),Cy O H us ps,T.n_dict,0<=f/\f<40,?ZA D D2,"faces_agree",⟨dx,fs,e _ _ h1,h2⟩,H c=?gD->H1 c=?gD,{ s with heap:=h' },?XW b,p.2.natAbs,?h1 s ci (as.eraseIdx i),(as.map V.ref).set,["j","i"],Nat.add_le_add_right,?YI (fun a=>P x a*u a),⟨?lZ,Ab,rfl,?H,?H,rfl⟩,?X4 p1,"numbers_at",?WU p3,∀ps∈ls,?RN,.(by simp at z),if i=j then 1 else 0,Fin k f l r,Ea xs k z k0 L G f l r i,?YI (fun j=>g ?bP),TA H r as n W f,fun i=>r.2 (k0+i),Tg j*A 0 j,⟨_,rfl,_,rfl,rfl,_,rfl,?_⟩,"is_list_of_few",?XW r,?ZN 40,fun j hj=>O9m,LX H CS p r b (?a1W q) n W s M,i<ms.length,(?YD (s y)),(p dx:Addr),?ZI p5,∃z L G,?a0W 4,Rows H H1 D as w f,upd (?XQ 0) N0 (?R [?mM,?d 0,?d 1]),Ay ?iA t.1,fun z _=>?FM,ok _ O9m,Nat->Bool,let u6:TS:=At t6 u7;?GD,?a0U m3,.(by ext VV),F.entry_enumerate_next,H r'=none,(Ow hq).1,sh.blend,Ay (ns.take i) k,(?qF ?EM),⟨El,sz,?JR,Ab,?_,_,rfl⟩,bj.fin.dg.pos,[?y,?bH],hT i c hi h,mainGlobals,hs9 j O9m,gs.foldl,QB ?b0 c,let u3:TS:=?TV;?SD,?yY-f i*?jR,⟨rfl,rfl,rfl⟩,[a,b,c,d],x j*hd j,fun _=>Lat.one,Oz H vs ls,j<l.length,.(by simp[F1]),let u7:TS:=At t7 u8;?MD,Ay ?pV q,VI w (f i),B6 H us ps,Dt n W w i G R0 B0 t π b ?h s.1 s.2,s2.seq hb,h'.IsTupleIter,?YR a xs,Fv ?s4 r,qg9.mp hn,∃x y,x<k/\y<k/\x≠y/\r x=r y,(?hS z).map,?a0F ?rK,E4 K n n st f fd,Ft n w r E e T,"_law_word",(?bC e1).1,beside_hi,(one i j).natAbs,fun q=>z ?rA,[?hK,"faces"],(tab k z),E4 K n q st f fd,y k l*?s3,FU ms n ns i,fun h0=>?_,?WE p3 R9,?X4 p0,fun spot st s' hs hI hB hex=>?_,Q (?f tp) H',Al f (a+b),?a07 i,fun j c _=>?q5 j c,?ZJ p2,List.map_id,(β+?eZ),I.list hq,its.toArray.size,g x σ H fun σ1 H1=>At t1 u2 D' σ1 H1,?a00 ?gR,?OI I ds hr rv,(?YU ta hT),T.n_enumerate,wpAny_attempt,?kA f k0 j,?a01 n,Ej π b ?x,?eD ?hB sp[i],(one,one),(?iZ).map,wpAny_callSpecial?_slot,readsAll_of,hf _ (Ni hj),i<xs.length,(?yX).2.2,?XX p1,h.mono hb,Al (fun y=>?B8*Q y c) (k+d),.(by simpa using e2.symm),a≠r/\a≠b/\¬N a,?ZW r,.(fun p hp=>by cases hp),2 ^ kB ?f7,Ay (?a0Y ?Z (?dV ?aZ (lp k).2 ?oY i)) q,?hV=none,(?PB).getD,X.calm=true,?WY cnt s,Fv ?s4 (r+d),"shared_divisor",ZH x e-ZH y e,n*D<=?b9,?WU p2,?XX p2,?mC/\b≠it,⟨(Ef h).1,(Ef h).2.1⟩,s.toks+1,?ZN 1000000,(h a z).elim,if ?dG=k then c else 0,Dy xs ?qT,x m*T m c,?X5 p5,t.lev hj,.(by rw[e,eb]),QB ?b0 a,F1 ms ns,(?l vs),.(by simpa using e1.symm),?XU ?JF,?a17 S x9,sp _ _ El,let u8:TS:=At t8 u9;?N3,B.natAbs<L9,.(by simp at e),∀q c,q<m->c<w->B q c=Al (fun i=>L i q*T i c) z,hb.typeIs,At t4 u5,DK i*?oE,?nQ t vs,⟨?MO,[]⟩,(tF d).hasDict,?p5 z P G i a,?wS t i s d,(?bC hq).1,Good n ?E w n ?fR PB R RB,?a0L p0,ft.bel f hf,l8 K H H' tp nm r1 D1 D2 b2 n w k f l r,At t2 u3,Rk n ?E w r kt hd ?fR,Mp E3 k v,i<l.length,Ee rp _ e,hl.getD k [],fun u hu=>?_,?dD*φ ?mP,Al (fun a=>?PX*?eH) m,fun j=>?m (?a1F j),let s:=?zV;G s,Al (fun a=>?hC*?eH) m,lift1 fl lf g,.(by rw[qh0];grind),"column",(?K B H),fun j=>?F6,Ov xs ?Z ms,(tab j z),?z7+?HJ+(?a04 spot+3),[?xD,?AG,"a","b"],k3.push ?IR,gT m G B j c',Al (fun i=>?p5 z P G i c*?p5 z PB L i d) z,if ?dS=0 then [] else ?a0Y ?a2 (r.1 i),fun i j=>?F6,?a01 4,⟨c,O9m,h2,h3⟩,Q (?L1) H,qb6 _ O9m,.(by have:=dg.mn;have:=dg.mw;omega),?X4 p2,(ms ns:Ms),?pT*e.natAbs,Ay ?fS ?lI,Dh xs ?gI,.seq vs n,(ls.map Rc).getD j [],xM x y H Q,?AS n w M',fun i=>(?r8).getD ?qX,?WI p1,(?h4).toNat,I.hok a _ ha,?WE p2 R9,fun t=>Dx.start _ _ _ _ _ _ t,RK ns lo hi,Al (fun j=>?LV*det n (Xj A j)) ?v,"one_row",S x0 x1 x2 x3 x4 x5 x6 x7 x8,[rS ta,o1,o2],Il ?pF k,s.heap.get?,ft.low f hf,?YI (fun k=>(x k-?oG)*R k c),∀p∈ps,?nP/\?uE,?YK h.pos,?XG h,[?eN,"j"],?WE p0 R9,?WE p7 R9,[iS n,iS p,rS L,rS N,o4,o5],(?Y5 ?SI).length,?WV fl,"is_whole",?tH / ?bI,Al (fun i=>?jQ*?s8) ?hN,?ZJ p3,UF n w D π β π2 β2 b2 A m M l r,Ue H ?mU a,bookF+bookF,DL hs E3 p,if c=c' then 1 else 0,sg i*φ ?lI,List.Pairwise.filter,a1.same e,(KW q.1),?a0F ?oR,Nat->?x8,setField,π2<=8990,let u2:TS:=?Q4;?SR,hall2 i' O9m,.(by rw[HT.sIx_nat];omega),.(by ext e0;exact ?fH),aZ h4 _ _,ms[i].1.toNat,Ie W u st,fun y x=>M x (?WT 0),(σ'=?RT),(as.set i D1).set j D2,"across",?P w T one j (s l),(?bM).natAbs,?a00 hp,At t1 u2 D' σ H,.(by rw[Ai (T8 c _ q)];exact q),?U Expr,blend_row_ne O9m O9m _ _ _ _,ls.length=4,?a0Y k (?dV z l.2 L i),(?XG hj),bj.fin.ir,(?R vs),Nat->?M,Uz xs ?cV ps,Ee ks _ e,?a1T (?YQ ?qV),bl.fin.bl.1,a=nm\/a=r1\/a=D1\/a=D2\/a=b2,Ay ?rH p,(?ZD ?fU),?d i s.toks,.(by rw[←zK];exact ?l5),w3.extBut,.bl (! ?KN),Mv n ?yH,?a0B ?b7 x,?j (?RP),fun x y=>M x (?WT 0),Ci.start _ _ _ _ _ _ _ _ _ _,(?ZD hen),qa6 (Gp _ _ _) E3,β2+Gg π2 b2 i<=big,g.trans gp,?X3 SO k,j<p.length,⟨c,q1,e0,e⟩,["old","new",?GQ],Fv (a 0) m,?pR r O9m,Ay (?a0Y ?Z (?dV ?aZ (lp k).1 ?p0 i)) p,?Y9 H ?H,["j",?dE,"i"],At t5 u6,At t3 u4,?aR xs (Ay ?p9) (?cL),?A0 h' e j ?cT x ?b7,[?f nm,?f r1,?f D1,?f D2,?f b2],wpAny_isInstance,H p=none,xs=[?a8],(mW H d),fun a=>a=nm,Lat.mulV,(?nH).map,if ?f3=e then ?bV+1-?hG else ?bV,MD (fun r=>?B6) i,ly.keep s,?m (0<=r.1)&&?m (r.1<?cR),2 ^ 8000,Rb (?d1) t.1,?gY/\?gN,?ZE H' N,spN xs k i,?K H G',R8 xs ms i,Cy O H' vs ps,"level_of",let u3:TS:=?TV;?EC,?aR a ?aQ,q.2.natAbs,(Ay ?rH),(?q0).getD,toPDs ds,∀i,i<n->?v0,?o3 i O9m,.(by have h1:=GD (xs:=xs) (k:=?s2) (u:=?dV ?f7 (lp j).1 ?qP i) (c:=c);rw[?HC]at h1;exact ?IZ (Lat.gauge_edge bj.fin.dg ?SY hi hc)),.(by have G:=F.agr ?aQ;have e1:=G 0 1 b a _ _ ?bW rfl rfl gb ga;have e2:=G 0 2 c a _ _ ?bW rfl rfl gc ga;have e3:=G 1 2 c b _ _ ?bW rfl rfl gc gb),∀(g:?NH)(K:?Q5)(s:?Q0)(st:Di ?E n R t)(tab:∀j,j<r->t j<w)(ker:∀j,?e8->j<n->t j=kt j/\?kO=hd j),a,.(by rintro zs τ G1 ⟨s3,FZ,hzs,_⟩;refine⟨D,_,rfl,?g ⟨.of FZ,?JE⟩⟩;have s4:?K G1 (upd G1 T1 (?R zs)):=?c8 hT1),.(by obtain⟨A,ha,ga,la,ca⟩:=?UK;obtain⟨B,hb,gb,lb,cb⟩:=?HD;obtain⟨C,hc,gc,lc,cc⟩:=?aR c ?aQ),.(by refine ?O8;refine Ih (?t) ?_;exact⟨_,rfl,k _ _ (Same.refl H) hu⟩),∀(p:?L7)(hA:∀i c,i<n->c<w->?I0<=2 ^ b0)(dets:?KC),a,.(by intro Ad s σ H xs us Q I r h;obtain⟨a,vs,rfl,ha,q⟩:=h;obtain⟨u,v,rfl,rx,rt⟩:=X8 r;cases rt;cases rx),.(by obtain⟨tv,dx,fs,hp,l1,l2,l3,l4,l5,l6,l7,hrep⟩:=x.ob;obtain⟨r1,b1,r2,b2,lx,ly,f⟩:=x.li),.(by intro X hP hw hK hc i Ad s σ H E I hf st hg;subst hP hw hK;obtain⟨⟨old,h1⟩,h2⟩:=st),.(by have e:=jP (w:=w) (n:=n) (f:=f) (g:=?FU) (h:=f) ?aB ?aB),.(by obtain⟨c,hc,ec⟩:=qg4 hp;have e1:?UN c 0=p:=by rw[qa3,qa0 hc,ec];rfl),.(by show ?XS 2 _;refine qa5 (qh3 ge rfl (x:=?f j) rfl ?_)),.(by have hj:=(?bC e).1;rw[t.len]at hj;obtain⟨h1,h2⟩:=?KA;rw[h2]at e;cases e),∀{O H:Hp}{vs:?p}{lf:?f2}{c:Addr}{m:Ms}(h:?uP)(e0:?m3)(e:?a1S c m),a,.(by have cm:∀C,?qG*C<=(?a7+1)*C:=fun C=>qb6 _ (qn6 _)),.(by have f1:=p.f1;have f2:=p.f2;have fb:=p.fb;have hbF:VL<=big:=?c0),.(by exact ?YA o ?EU),.(by have hi2:=?NJ;rw[qc3,qp1]at hi2;have ei:?E2:=O9m),∀(s:∀c o,?m3->?DO),a,.(by exact ?YA o ?F3),.(by rw[qc4,qc4]at h2;exact X0 (qd2 h2.1.1) (qd2 h2.1.2) (qd2 h2.2)),.(by obtain⟨i,hi,rfl⟩:=?bZ (?fI hb).1;have hi:=?h7),.(by subst ei;rw[?pM,qi4]at e1;rw[h0,?pM,qi4]at e2),.(by exact ?a0K ?EU),.(by exact ?a0K ?F3),.(by rw[?I,?q (by rw[x.1];exact hi)]at ec;cases ec),.(by have h1:=qe5.mp hcb r hr;unfold M8 at h1;rw[qc4]at h1),.(by have ht:s.TypeIs ?dX ?eI:=?E4),.(by refine(?YL p)),.(by obtain⟨a,vs,rfl,hq,hr⟩:=h;obtain rfl:u=?y:=r),.(by rintro ⟨p,hp,e⟩;exact⟨p,hp,?lO⟩),.(by show ?XB ?B3 _;rw[qd4];omega),.(by rw[?m6,?m6]),.(by unfold Mr;rw[qe5];intro j hj;rw[qe5];intro i hi),.(by exact ?YA q ?y4),.(by obtain⟨D,uk,e1,e2,e3,e4⟩:=?G0),.(by have e1:=cm ?eZ;have e2:=cm ?j3),.(by have ne:b≠D:=fun z=>by rw[z,hD]at h;cases h),.(by have s1:=sC ?eZ;have s2:=sC ?j3),.(by rw[Ai (Fh h hn ?bS)];exact h),.(by rw[Gc hx hy ne ?MA];exact ?a4),.(by revert σ;refine wV ?_;intro o1 o2 s1 hS Ei),∀(f3:?YB H0 r2)(f4:?YB H0 b2),a,∀(x:?Q3),a,∀{X:Cx}{J:XJ}{j k:Nat}{C:Addr}{ps:?u},a,∀{fl:Ms}(h:?dH)(hf:Du fl)(g:?aG),a,∀(x:?X7 H),a,∀{q m z w k E:Nat}{D L G B P PB Q QB:Mat},a,∀{e o:Expr}{es:?ST}{ta:TE}{t:TA},a,∀{X:Cx}{Ad:Bn}{σ:St}{H:Hp}{s:Shared},a,∀(n w D π β π2 β2 b2:Nat)(A:Mat),a,∀{tp nm r1 D1 D2 b2:Addr}{n w k:Nat},a,∀{z m w:Nat}{L T B:Mat}{p:?o},a,∀{es:?ST}{x1:Nat}{tpos:Pos},a,∀{n w D:Nat}{A:Mat}(h:?K8),a,∀{Q:?kV ?jO->?xA},a,∀{n w k E:Nat}{A P PB Q QB:Mat},a,∀(dl:F5 n w ?fR PB),a,@(?a x0 x1 x2 x3 x4 x5 x6 x7 x8 x9 ?b),@(Bw P w K mg ?S Ex 1 f fd ?a (?b K)),@(∀σ H,?a->?C),@(At t1 (At t2 (At t3 (At t4 ?a))) D σ H),@(?a  x0 x1 x2 x3 x4 x5 x6 x7 H),@(fun _ _ _ _=>?a),@(∀σ,?a->?N),@(?c (.dK (cK ?a))),@(g x σ H fun σ1 H1=>At t1 ?a D σ1 H1),@(?dT+sg 0*Rb (?B a.toNat []) e+sg ?a*Rb (?B b.toNat []) e),@(?c (?l ?a)),@(fr _ _ (fun z=>?a ?sP) (fun z=>?b ?nI) e),@(?OA (?OH (name:=Str.ofString "__next__") ht qq5 (ql0 qq5 ht ?MG ?a (F.args_enumerate_next_1 _)))),@(WX K CL CW H0 ?a p L R nm n w ?b l r ns),@(?a  x0 x1 x2 x3 x4 x5 x6 x7 x8 x9 H),@(s (if y=0 then y0 else if y=y0 then ?a else y)),@(?a x0 x1 x2 x3 x4 x5 x6 x7),@(wF φ ?a),@(?bJ _ _ ?a _ _ ⟨?b,g,d,tk+1,os⟩),@(Dz (R8 xs ?a ?b)),@(SX CS H0 H p q M n W t ?a ?b),@(Fu X (?qF "any") (fun xs H Q=>∃(p:Addr) (bs:?x0),?U1/\SqL ?a H p (?zQ)/\?QW)),@(H p=?c (?b5 ?a dx ?b)),@(show ?a<?b by omega),@(Bf (Eu (K:=K)) ?u6 By (Aa ?z (Aa ?a Af))),@(?a xs ?b z k0 L G f l r),@(?a x0 x1 x2 x3 x4 x5 x6),@(?a x0 x1 x2 x3 x4),@(Rep K H v (dT n ?a ?b)),@(Rz K ?a tp nm r1 D1 D2 b2 n w k f l r),@(Bf (Az (K:=K)) T.n_len qh4 (Aa ?a Af)),@(?aF ?a ?aH),@(SX CS H0 H' p q M n W t ?a ?b),@((?a).length<=?b),@(Ci n ?E w r ?a ?b M B0 kt hd t s.1 s.2),@(A0->A1->A2->A3->A4->A5->A6->A7->?a),@((?B (?pL).toNat []).getD i 0=(?B (?pU).toNat []).getD (j-1) ?a),@(?a  x0 x1 x2 x3 x4 H),@(fun z=>?a ?bK),@((5*?A+?A*?A+1)*?a),@(Ba ?dB ?a ?b ?aB),@(mg ?a=none),@(?dO (?a:Str)=?c ?b),@(?a  x0 x1 x2 x3 x4 x5 x6 x7 x8 H),@(?a (show _<=F by omega)),@(?a  x0 x1 x2 x3 x4 x5 H),@(h'.get? ?b7=?c { cls:=?i1,data:=.seq #[?d n s.toks,?a] }),@(Al (fun a=>?a a*QB ?b a) w),@(upd H L0 (?R [?eC,?d 1,?d ?a])),@(⟨h.1,fun i v ps e1 e2=>let ⟨a,us,e,?a,h1,h2⟩:=?EZ;?b⟩),@(?bJ _ _ (field ?dX ?a>>=_) _ _ ?b),@(?P n (fun i j=>u1.1 j ?a) r.1),@(Al (fun c'=>?h5*?a) w),@(∀H',?J->Q ?a H'),@(H0 ?a=none),@(?a  x0 x1 x2 x3 H),@(LX ?a CL R r2 b2 ?eT w w ?b ?mU),@(?a (l:=C) (by unfold lev at lc;simp at lc;omega)),@(Ju fun ?eL ?a0=>D6 ?o1 (LT K H v xs) ?lN ?eW ?a),@(⟨_,rfl,?a,rfl,⟨_,?b⟩,?f5⟩),@(upd H ?a (?l ?b)),@(Ju fun o1 o2=>τ=[o1,o2,?a ?b]),@(Ak fun a _=>?a),@(?B ?a []),@(?a  x0 x1 x2 H),@(WX K CL CW H0 H p L R nm n w ?H ?a r (Jq m f)),@(show ?a=?b by omega),@(LX ?a CL L r1 b1 ?b n n l ?t3),@(?g (?k ⟨?a,?b⟩)),@(?a ?b=Option.none),@(∀x,x<q->?bL m D ?a x=0),@(fun x y=>?P w A one ?iW ?a),@(fun r hr=>by rw[qk1]at hr;subst hr;exact ?a),@(Rep K ?a (?f D2) (dT w w fun i j=>r.1 j i)),@(Rep K ?a (?f D1) (dT n n fun i j=>l.2 j i)),@(Ay (Dh xs ?hL) ?a+((Rc (?nH)).map ?kX).sum),@(Al ?a n),@(A0->A1->A2->A3->A4->A5->A6->A7->A8->A9->?a),@(?a j h1 h2),@(⟨?a,_,rfl,?l5,rfl,_,_,rfl,_,_,rfl,rfl,?_⟩),@(Av (i:=?a) ?iF (Fc (Aa ?b (Aa Am (Aa Am Af))))),@(qx4 ?a (fun key=>?_) ?_),@(fun j hj hn=>?a j hj hn),@(fun i=>?a ?b),@(fun f=>Ay (?a ?sX []) q),@(SqL K H ?a ?b),@((?a I1 D1).headD ?cW ?b (show j<i+1 by omega)),@(?a->Prop),@(⟨_,rfl,?a,_,_,_,rfl,rfl,?b,rfl,rfl,_,rfl,?_⟩),@(tO i j g a ?a f r),@(fun a u n1 n2 e=>by rw[Ai ?a];exact ?E3),@(det ?v (?a A ?b)),@(Ci n ?E w r i ?a ?fR PB kt hd t s.1 s.2),@((?a).length=?b),@(vs=[?y,?bD,?a]),@(show ObjOk ?w4 X.w H ?dC a ?a from ?RB),@(show ?nQ ?a ?k7 from p),@(fun q hq=>?a q (qb9 _ hq)),@(fun i j hij hj=>?a ?b0 ?dJ O9m O9m O9m),@(fun a o e=>fr _ _ (Ao e ?a) (Ao e ?b) (?A3)),@(A0->A1->A2->A3->A4->A5->A6->A7->A8->?a),@(A0->A1->A2->A3->A4->?a),@(?X fun p=>(p.1,?a*p.2)),@(mg ?a=?AY/\∀H,Ed K H a ((?b:?F).map ?a3)),@(lG n w b0 ?a π b β ?b π2 b2 β2 C1 C2 F),@(JL n w r M B0 kt hd π b η β ?a t s),@(?a xs ?cV ?f7 ?hN ?w7 ?qP ?sW ?x7 ?yC),@(⟨_,?a⟩),@(LX ?a C p r b sv n W s ?b),@(Al (fun j=>?iQ*?a j ?b) z),@(?k (?k (?k (?a rfl)))),@(?dY ?a e j ?b old),@(?a x0 x1 x2),@(?a  x0 x1 H),@(?a (K:=K) ?w T.n_zip (Aa ?b (Aa ?cN Af))),@(φ (?dG)*Ay ?a (?dG)),@(xs.length<=?a),@(ms.length<=?a),@(k x0 x1 x2 x3 x4 x5 ?a h0 h1 h2 h3),@(Lat.insS ?a ?h st s'),@(Dz (FU ms ?a ns ?g6)),@(Al (fun j=>?iQ*?a) z),@((∀b o,?mC->b≠j->?xQ)->Q ?a ?GX),@(g x σ H fun σ1 H1=>t1 ?a σ1 H1),@(Td n w M l r ?a),@(?c (?a[i]' ?eV)),@(2 ^ ?a*e.natAbs),@(?a ?f8 ?qU (Ay ?f8 ?qU+n*(?k9).2)),@(?a (by simp[h])),@(⟨h.1,fun i v e=>let ?DF:=?EQ;?a⟩),@(s _ _ ?a),@(Wg xs ?a zs ks Ls Gs fs lp rp ls),@(LX H' CS p ?a ?b (?c (?f q)) n W s' M),@(H ?a=?c (?R [?d p.1,?y,?bH,?d0])),@(?gX+(spot-r)*?fK+?a),@(?bO fun x hx=>by rw[?a x hx,qd9]),@(?bO fun a ha=>by rw[?a a ha,qd9]),@(ls[?a]?=?g3),@(k x0 x1 x2 x3 ?a h0 h1 h2 h3 h4),@(⟨_,rfl,_,_,d,rfl,?a ?b,hx,_,rfl,?_⟩),@(us.length=?a),@(upd H ?a (?R [?aT,?b])),@(fun i j=>s1.1 j ?a),@(fun a ha=>⟨(?a).1,(?b).2.1,?c6⟩),@(fs.length=?a),@(Re ?qC η r ?a),@(Em fun o=>τ=[o,?a ?b]),@(Al (fun c=>Al ?a ?b) w),@(Ai (ne ?a ?nR)),@(?o8 (i:=?a) ?b O9m O9m),@(?g (?g (?a))),@(?a x0 x1 x2 x3),@(Rep K ?a (?f r1) (dT n n l.1)),@(Rep K ?a (?f b2) (dT w w r.2)),@(QD (fun r=>Mx ?o0 ?nF ?a r ?b) ?l3),@(⟨?a,rfl,?c0,rfl⟩),@(wN ?a (by have:=p.π9;omega)),@(show ?a=?b from h),@(qn3 (?a i j hi hj) (?b j c hj hc)),@(fun j hj1 hj2=>?a),@(fun d hd=>?dW (?a d O9m) O9m),@(fun M' e=>?i6 ?a (hrep M' e)),@(Nn xs ?a ls z L G),@(Mx π b ?a r ?b),@(Mq xs ?a ?b),@(DS ?a ?b id hD OC),@(BB n W C δ ?a ?b),@((?a:?p)[i]?=?c ?b),@(?a (?b xs ms i) _ _ _),@(?a x0 x1 x2 x3 x4 x5 x6 x7 H),@(Eh (K:=K) (n:=2) ?w (Bp (Ar (i:=0) ?a) (Bp ?b Eg))),@(⟨_,(Ah (Bb ?a)),?_⟩),@(?a x0 x1 x2 x3 x4 H),@(?a x0 x1 x2 x3 x4 x5 x6 x7 x8 ?b),@(?a x0 x1 x2 x3 H),@(?a x0 x1 x2 H),@(At t5 (At t6 (At t7 ?a))),@(?a x0 x1 x2 x3 x4 x5 H),@(eG (?WX ?a 1) q),@((?a).getD ?cS []),@(?a x0 x1 H),@(C6 (?Y5 ?a).length=k),@(IB _ _ (?X1 ?a n) (?X1 ?b n) O9m _ x y),@(β+(?a7+1)*?eZ+C1+?XH (2*π+4)<=?a),@(Hq (vs=[?a8,?bD]) (?yP) ?QJ ?BZ (k<?a) ?b),@(H ?a=?WO ?b),@(At t2 (At t3 ?a)),@(∀[?jE],?aX->?J->?dN=?WO ?a->?bQ),@(fun σ' H'=>σ'=[rS c,?c ?a]/\H=H'),@(B4 (p0) (p1) (p2) ?a),@(?WN 1+sg 2*Rb (?Y5 c.toNat) ?a),@(β2+(?a7+1)*?j3+C2+?XH ?eE<=?a),@(Em fun x0=>E5 ?f4 ?a ?b),@(Ba ?l1 ?z (Ba ?dB ?Y ?a ?aB) ?aB),@(H ?a=?WL ?b),@(?aR xs ?a p),@(?a->?YT ?b),@(ms.length+?a),@(?c (?f ?a)),@((det k ?a).natAbs=(det k ?b).natAbs),@(Al (fun l=>(RB l a-?lY)*?a) n),@(Al (fun i=>qH ?a p (?kU)) ?aZ),@(h.2 i ?a ?b e1 e2),@(fun z=>?a ?b),@(fun b=>if b.1=1 then ?a ?b q b else 0),@(Rep K H ?a ?b),@(Be ?a ?b Am ?cB),@(Al (fun a=>u a*?a) ?b),@(?xR n p ?a x y ?b u v),@(fun vs H Q _=>Xr fun ?AM ?Z (B:Hp) ?a0 ?xO=>?a1I ?a ?b),@(Ar (i:=?a) ?b),@(vL ?a fun j=>(?vG (?a1C ?cX)).sum),@(Ch ?w ?AL (Aa ?a Af)),@(fun y=>Rb (?Y5 y.toNat) ?a),@(Ah (Bb ?a)),@(∀[?jE],?aX->?J->?dN=?WL ?a->?bQ),@(Av (i:=?a) ?iF ?b)])
theorem TA.of[?dA]{H1:Hp}{w h:Nat}(R:?M7)(hl:as.length=h):TA H1 D as h w f:=⟨hl,R.at,fun i c e=>(R.row i c e).2.2⟩
theorem TA.congr[?n5](e:∀i c,i<n->c<W->f i c=g i c):TA H r as n W g:=by
 refine⟨x.1,x.2.1,fun i c ec=>?_⟩;have hi:i<n:=by rw[←x.1];exact(?bC ec).1
 rw[?kS i c ec,Qt fun k hk=>e i k hi hk]
theorem TA.x[?tT][?n5][?tO]:TA H' r as n W f:=by
 refine x.keep (fun o e=>sx _ _ (Fh x.2.1 hp ?bS) e) fun a ha o e=>sx _ _ ?_ e;obtain⟨i,hi,rfl⟩:=qg4 ha;exact Fh (?kS i _ (?h3)) hp ?bS
theorem TA.made{H2:Hp}{L D:Addr}{i:Nat}[?n5](s2:?K H H2)(hi:i<n)(hL:H2 L=?WO (?LF i (?eG)))(hD:H2 D=?WO (VI W (g i)))(e:∀r,r≠i->g r=f r):TA H2 L (as.set i D) n W g:=by
 refine⟨by rw[qi2,x.1],by rw[hL,List.map_set],fun j c ec=>?_⟩;rw[qo9]at ec;by_cases hj:i=j
 . subst hj;ext VH;exact hD
 . rw[?zM]at ec;rw[e j ?SX];exact s2 _ _ (?kS j c ec)
theorem TA.two{i j:Nat}{D1 D2:Addr}[?n5](hi:i<n)(hj:j<n)(hij:i≠j)(h':H' r=?WO ((?LF i (?f D1)).set j (?f D2)))(keep:∀a∈as,∀o,H a=?b4->H' a=?b4)(h1:H' D1=?WO (VI W (g i)))(h2:H' D2=?WO (VI W (g j)))(e:∀k,k≠i->k≠j->g k=f k):TA H' r (?SM) n W g:=by
 refine⟨by rw[qi2,qi2,x.1],by rw[h',List.map_set,List.map_set],fun k c ec=>?_⟩;rw[qo9,qi2]at ec;by_cases hkj:j=k
 . subst hkj;rw[?I,?q (by rw[x.1];exact hj)]at ec;cases ec;exact h2
 rw[?j hkj,qo9]at ec;by_cases hki:i=k
 . subst hki;ext VH;exact h1
 rw[?j hki]at ec;rw[e k (?XG hki) (?XG hkj)];exact keep c (qb0 ec) _ (?kS k c ec)
theorem kI{i j:Nat}{D1 D2 a:Addr}(h:a∈?SM):?uM\/a=D1\/a=D2:=by
 rcases qn2 h with h | h
 . rcases qn2 h with h | h
   . exact ?t9
   . exact ?k (?t9)
 . exact ?k (?eP)
theorem Kh{l i:Nat}(h:i<l):UX l (?z4:Int)=?c i:=by
 unfold UX;rw[?gB,?gB,qe3]
universe e9
def mNames:?u:=["turn","blend","put_in","meet","shrink","shrink_row"]
structure LX(H:Hp)(C p r b:Addr)(sv:?mB)[?gL][?c1](N:?fT):Prop where
 ob:Ju fun dx fs=>?X0 C fs/\D6 (?XK ?fN (?f r)) (?XK ?iB (?bH)) (?dO (?z6:Str)=sv) ((∀m∈mNames,?IJ)) (fs.length<=10)
 rw:∃as,TA H r as n W s.1/\∀a∈as,?OQ
 bk:∃bs,TA H b bs n n s.2/\∀a∈bs,?OQ
 ne:r≠b
 nr:¬N r
 nb:¬N b
 nn:∀a,N a->H a≠none
theorem LX.keep[?aW][?tM][?u3][?tU](e:?J):?UD:=by
 ext C3;exact⟨?L9,⟨as,?S7,a2⟩,⟨bs,?JU,b2⟩,?eS,x.nr,x.nb,fun a ha z=>x.nn a ha (e.free z)⟩
theorem LX.refs{H:Hp}[?tM][?u3][?tU]:p≠r/\p≠b:=by
 obtain⟨dx,fs,h1,_⟩:=x.ob;obtain⟨as,a1,_⟩:=x.rw;obtain⟨bs,b1,_⟩:=x.bk;exact⟨Fh h1 a1.2.1 ?bS,Fh h1 b1.2.1 ?bS⟩
def tnS(t:Tn)[?c1]:?M:=(TF t s.1,TF (tnA t) s.2)
def YZ[?gL](f:Lat.Mat):?YT Tn
 | .ad i j k=>i<n/\j<n/\i≠j/\∀c,c<W->?cA k (f j c)
 | .mi i=>i<n
 | .sw _ _=>False
def Wi(r b:Addr)(H H':Hp):Prop:=∀x o,x≠r->x≠b->H x=?b4->H' x=?b4
theorem Wi.of{r b:Addr}[?aW][?d7]:?kG:=fun _ _ _ _ e=>?a00 e
theorem Wi.trans{r b:Addr}{H H1 H2:Hp}(x:Wi r b H H1)(y:Wi r b H1 H2):Wi r b H H2:=fun a o n1 n2 e=>y a o n1 n2 (x a o n1 n2 e)
theorem Wi.l{r b:Addr}[?aW]{o:HO}(x:?kG):Wi r b H (upd H' r o):=?YW n1
theorem Wi.r{r b:Addr}[?aW]{o:HO}(x:?kG):Wi r b H (upd H' b o):=?YW n2
section
variable[?i][?aD]
def Ym:Sp:=fun vs H Q _=>XQ fun(r:Addr) (u:V) (as:?iD) ?gU (f:Lat.Mat) (t:Tn)=>Lk (vs=[?f r,u]) (?LT) (?a23 u (sV t)) (YZ n W f t) ?rW ?oX (∀(D:Addr) (as':?iD) (H':Hp),?aX->?J->TA H' D as' n W (TF t f)->(∀a∈as',(?uM\/?xP)/\a≠D)->?bQ)
def My[?b6][?aD]:Sp:=fun vs H Q _=>Xr fun(p dx C:Addr) (r b:V)=>B4 (vs=[?a8,r,b]) ((C=CL\/C=CS)) (?X0 C []) (∀H',(∀fs,fs=?DM->H'=upd (upd H p (?b5 C dx (putF ?fN r []))) p (?b5 C dx fs)->?aU))
def Kt[?i][?aD]:Sp:=fun vs H Q _=>GX fun ?AM (u:V) (C r b:Addr) ?w6 ?gU ?gO ?BK (t:Tn)=>gY (vs=[?a8,u]) ((C=CL\/C=CS)) (?vD) (?a23 u (sV t)) (YZ n W s.1 t) (YZ n n s.2 (tnA t)) ?rW ?oX (∀(r' b':Addr) (H':Hp),?sF->?MH->?DV->LX H' C p r' b' sv n W (tnS t s) N->?aU)
def Wq:Sp:=fun vs H Q _=>∃A B:Int,vs=[?d A,?d B]/\0<A/\B≠0/\?F5/\?PO/\∀(L:Addr) (g a b:Int) (H':Hp),?J->Ed K H' L [?d g,?d a,?d b]->?p3 A B g a b->?HE
def Mz[?i][?aD]:Sp:=fun vs H Q _=>Ac6 fun(p C r b:Addr) ?w6 (n W i j:Nat) (A B:Int) ?gO ?BK=>xS (vs=[?a8,?aT,?d j,?d A,?d B]) ((C=CL\/C=CS)) (?vD) ?nE (j<n) (i≠j) ?rW ?oX (0<A) (B≠0) (?F5) (?PO) (?w8) (∀(L:Addr) (g a c:Int) (H':Hp),?kG->?rG->Ed K H' L [?d g,?d a,?d c]->?p3 A B g a c->LX H' C p r b sv n W (?vE i j a c (-(B / g)) (A / g) s) N->?HE)
universe e9
def Hds(W:Nat)[?cI](f m:Nat)(R:Lat.Mat):Prop:=∀j,f<=j->j<m->t j<W/\0<?kO/\?l7<L9
structure SX(CS:Addr)(H0 H:Hp)(p q:Addr)(M:?fT)[?gL][?cI](cnt:Nat)[?c1]:Prop where
 ex:∃r b,?M1/\?LY/\?LC
 st:?a1J q (VI cnt fun i=>((t i:Nat):Int))
 same:?nL
 fp:?qR
 fq:?XW q
 mq:M q
 sm:n<=100/\W<=200/\cnt<=n
section
variable{CS:Addr}{H0 H H':Hp}{p q:Addr}{M:?fT}{n W cnt:Nat}[?gJ]{s s':?M}
theorem SX.redo{H1:Hp}{r' b':Addr}[?CR](e:?iR)(sx:?pX p H1 H')(h1:H1 r'=none)(h2:H1 b'=none)(y:?a02 r' b'):?HO:=by
 have s1:=?y8 e;obtain⟨r,b,z,_⟩:=x.ex;obtain⟨dx,fs,hp,_⟩:=z.ob;exact⟨⟨r',b',y,?AJ h1,?AJ h2⟩,sx _ _ (Fh x.st hp ?bS) (e _ _ x.st),sx.same s1 x.fp,x.fp,x.fq,x.mq,?fQ⟩
theorem SX.redo2{r b:Addr}[?CR](lx:?M1)(f1:?LY)(f2:?LC)(fr:?kG)(_kp:?rG)(y:?a02 r b):?HO :=
 ⟨⟨r,b,y,f1,f2⟩,fr _ _ (?a21 ?sI ?EO) (?a21 ?sC ?EO) x.st,?Z5 f1 f2,x.fp,x.fq,x.mq,?fQ⟩
theorem SX.re[?CR](h:s=s'):?WY cnt s':=h▸x
universe e9
theorem insAt_get[?e5](k:Nat)(y:α)(xs:?dQ)(h:k<=xs.length)(j:Nat):(?JY)[j]?=if j<k then xs[j]? else if j=k then ?c y else xs[j-1]?:=by
 unfold insAt;by_cases h1:j<k
 . rw[?eM,qc6 (by rw[qc8];omega),qk8,?eM]
 . rw[?e7,qd3 (by rw[qc8];omega),qc8,Nat.min_eq_left h];by_cases h2:j=k
   . rw[?fV,h2,qi4];rfl
   . rw[?e6];obtain⟨e,rfl⟩:∃e,j=k+1+e:=⟨j-?a2,O9m⟩
     rw[show k+1+e-k=e+1 by omega,List.getElem?_cons_succ,qv8]
     congr 1
     omega
theorem AZ[?e5]{xs:?dQ}{i s:Nat}{y:α}(hi:?pA=?c y)(hs:s<=i)(j:Nat):(?h1 s y (xs.eraseIdx i))[j]?=xs[Lat.mvI i s j]?:=by
 have hl:?OK:=?uA;rw[?FF _ _ _ (by rw[qj1 hl];omega)];unfold Lat.mvI;by_cases h1:j<s
 . rw[?eM,?eM,List.getElem?_eraseIdx,?gB]
 . rw[?e7,?e7];by_cases h2:j=s
   . rw[?fV,?fV,hi]
   . rw[?e6,?e6,List.getElem?_eraseIdx];by_cases h3:j<=i
     . rw[?gB,?q h3]
     . rw[?Q,?j h3]
       congr 1
       omega
theorem BF{α β:Type}(g:α->β)(k:Nat)(y:α)(xs:?dQ):(?JY).map g=?h1 k (g y) (xs.map g):=by
 unfold insAt;rw[qb4,qc5,qo3,qp8]
theorem Vp{α β:Type}(g:α->β):∀(xs:?dQ) (i:Nat),(xs.eraseIdx i).map g=(xs.map g).eraseIdx i
 | [],_=>rfl
 | ?bF,0=>rfl
 | x::xs,i+1=>?IV (g x::·) (Vp g xs i)
theorem TA.move{H H1:Hp}{r:Addr}{as:?iD}{n W i s:Nat}{f:Lat.Mat}{ci:Addr}[?n5](hi:i<n)(hs:s<=i)(mX:as[i]?=?c ci)(h1:H1 r=?WO (?h1 s (?f ci) ((as.map V.ref).eraseIdx i)))(h2:∀a∈as,H1 a=H a) :
 TA H1 r (?LE) n W (Lat.moveR f i s)/\?KP:=by
 have mem:?KP:=fun a ha=>by
  obtain⟨j,hj⟩:=qg0 ha;rw[?FH]at hj;exact qb0 hj
 refine⟨⟨?_,?_,fun j c e=>?_⟩,mem⟩
 . unfold insAt;rw[qc3,qd4,qc8,qj0,qj1 (by rw[x.1];exact hi),x.1];omega
 . rw[h1,BF,Vp]
 . rw[?FH]at e;rw[h2 c ?BO,Lat.move_row];exact ?kS _ _ e
theorem HK{i s st:Nat}[?gJ](hs:s<=i):?h1 s (?a3 ((st:Nat):Int)) (VI i fun k=>((t k:Nat):Int))=VI ?x fun k=>((?H8 t s st k:Nat):Int):=by
 apply qs2;intro j;rw[?FF _ _ _ (by rw[Bu];exact hs)];by_cases hj:j<i+1
 . rw[Cp hj];unfold Lat.insT;by_cases h1:j<s
   . rw[?eM,?eM,?l2]
   . rw[?e7,?e7];by_cases h2:j=s
     . rw[?fV,?fV]
     . rw[?e6,?e6,?l2]
 . rw[?Q,?Q,?m6,?m6]
theorem Yp[?cI](p f:Nat)[?c1]:∀d l,l≠p->(?iV t p f s d).1 l=s.1 l
 | 0,_,_=>rfl
 | d+1,l,h=>by
   rw[Lat.shrS];show Lat.addR _ _ _ _ l=_;rw[Lat.addR_row_ne h];exact Yp t p f s d l h
def bW[?gL][?cI](i f m:Nat)[?c1]:Prop:=∀d,d<=m-f->BO n W (?iV t i f s d)
def JR[?gL][?cI](i:Nat)[?c1]:Prop:=∀d,d<=i->Hds W t (i-d+1) ?x (?PY).1/\bW n W t (i-d) (i-d+1) ?x (?PY)
def An9[?cI](spot i:Nat)(k:Int)[?c1]:?M:=?iV t i ?b1 (?jU i ?h (-k) s) ?z2
def Zp[?CY][?c1]:?M:=?vE ?h i a b (-(B / g)) (A / g) s
def qD[?cI][?CY][?c1]:?M:=?iV t ?h ?b1 (Zp ?h i A B g a b s) ?z2
def An8[?cI][?CY][?c1]:?M:=?iV t i ?b1 (qD t ?h i A B g a b s) ?z2
structure RV[?gL][?cI](spot i:Nat)[?c1](Nx:?lH):Prop where
 bo:?w8
 hd:Hds W t ?h i s.1
 oth:?kL≠0/\(?kL).natAbs<L9
 add:∀k,?kL=k*?yZ->bW n W t i ?b1 i (?jU i ?h (-k) s)/\Nx (An9 t ?h i k s)
 ble:∀g a b,?p3 ?r3 ?sV g a b->bW n W t ?h ?b1 i (Zp ?h i ?r3 ?sV g a b s)/\bW n W t i ?b1 i (qD t ?h i ?r3 ?sV g a b s)/\Nx (An8 t ?h i ?r3 ?sV g a b s)
structure Ab4(n W i:Nat)[?cI](s0:?M)(I:?IM):Prop where
 start:I 0 s0
 ok:∀spot s,?gG->?A7->∃c,c<W/\?lU≠0
 skip:∀spot s,?gW->?A7->(∀c,c<=?g0->?lU=0)->I ?b1 s
 meet:∀spot s,?gW->?A7->(∀c,c<?g0->?lU=0)->?kL≠0->RV n W t ?h i s (I ?b1)
def Ie(W:Nat)(u:?n)(st:Nat):Prop:=(∀c,c<st->u c=0)/\u st≠0/\st<W
theorem Ie.one{W W':Nat}[?gK]{a b:Nat}(h:Ie W u a)(k:Ie W' u b):a=b:=by
 rcases ql2 a b with e | e | e
 . exact ?W (k.1 a e) h.2.1
 . exact e
 . exact ?W (h.1 b e) k.2.1
theorem Ie.ex{W:Nat}[?gK](h:∃c,c<W/\u c≠0):∃st,?SJ:=by
 obtain⟨c,hc,h0⟩:=h
 induction c using Nat.strongRecOn with
 | _ c ih =>
   by_cases z:∃d,d<c/\u d≠0
   . obtain⟨d,hd,hd0⟩:=z;exact ih d hd O9m hd0
   . refine⟨c,fun d hd=>?_,h0,hc⟩;exact qg5 fun k=>z ⟨d,hd,k⟩
structure GS[?gL](J:?KO):Prop where
 step:∀i t s,i<n->J i t s->∃I,?EL/\∀spot st s',?gG->?zL->?wF->(?gW->st<?g0) →
  JR n W ?t4 i (?ZP i)/\J ?x ?t4 (?wS ?t4 i (?ZP i) ?x)
theorem jP{w n:Nat}{f g:?n}{h:?n}(h1:∀c,c<w->h c=f c)(h2:∀a,a<n->h ?eR=g a):VI w f++VI n g=VI ?E h:=by
 apply qs2;intro j;by_cases e1:j<w
 . rw[qc6 (by rw[Bu];exact e1),Cp e1,?l2,h1 j e1]
 . rw[qd3 ?e9,Bu];by_cases e2:j<w+n
   . rw[?l2,Cp e2,←h2 (j-w) ?e,show w+(j-w)=j by omega]
   . ext VO
theorem VQ{w n:Nat}[?c4]:J9 (VI ?E f) ?pH ?H=VI n ?FU:=by
 ext V1;have s1:?jS ?E 0 ?pH=w:=?SF
 unfold J9;rw[Bu,s1,←e,List.drop_append_of_le_length ?e9,List.drop_of_length_le ?e9,qo2];apply qi1;rw[Bu];simp only[HT.sIx];omega
theorem Au6{w n:Nat}[?c4]:J9 (VI ?E f) ?H ?pH=VI w f:=by
 ext V1;have s1:?jS ?E ?E ?pH=w:=?SF
 have s2:?jS ?E 0 ?H=0:=rfl;unfold J9;rw[Bu,s1,s2,List.drop_zero,qw9,←e,qp3 ?e9,qi1 ?e9]
section
variable[?i][?aD]
def Wp[?i][?aD]:Sp:=fun vs H Q _=>VT fun ?eL (L r b:Addr) ?w6 ?BK ?hZ (T P PB:Lat.Mat) (J:?KO)=>gY (vs=[v,?d w,?f L]) (?X6 w T) (LX H CL L r b sv n n ?yH N) (n<=60) (w<=60) (GS n ?E J) ((∀t,J 0 t (?BP w T P,PB))) ((∀i t s,J i t s->?sA)) (∀(tp D L' r' b':Addr) (as:?iD) [?cI] [?c1] (H':Hp),?J->J n t s->Ed K H' tp [?eG,?f L']->TA H' D as n w s.1->LX H' CL L' r' b' ?H n n (fun x a=>s.1 x ?eR,s.2) N->?aX->H L'=none->?MH->?DV->?NW)
def Ts:Sp:=fun vs H Q _=>Th fun(c:Addr) (W st:Nat) (u:?n)=>D6 (vs=[?d0]) (?YR c (VI W u)) (?SJ) ?oX (Q (?d (st:Int)) H)
def Ks[?b6][?aD]:Sp:=fun vs H Q _=>GX fun ?cP ?rF ?r9 ?gU ?qH (cnt:Nat) ?gO (i f:Nat)=>EE (vs=[?a8,?aT,?d f]) (?OY) ?nE (f<=cnt) ((i<f\/cnt<=i)) (Hds W t f cnt s.1) (bW n W t i f cnt s) (∀H',?XA cnt (?iV t i f s (cnt-f))->?aU)
def Yk[?b6][?aD]:Sp:=fun vs H Q _=>Ex9 fun ?cP ?rF ?r9 ?gU ?qH ?z4 ?gO=>B4 ?oS (?WY ?x s) (JR n W t i s) (∀H',?XA ?x (?wS t i s ?x)->?aU)
def eT[?b6][?aD]:Sp:=fun vs H Q _=>GX fun ?cP ?rF ?r9 ?gU ?qH (?h i:Nat) ?gO (Nx:?lH)=>Hq (vs=[?a8,?d ?h,?aT]) (?WY i s) (?gW) ?nE (RV n W t ?h i s Nx) (∀H' s',?XA i s'->Nx s'->?aU)
def Yl[?b6][?aD]:Sp:=fun vs H Q _=>NZ fun ?cP ?rF ?r9 ?gU ?qH ?z4 ?gO (I:?IM)=>Hq (vs=[?a8,?aT]) (?WY i s) ?nE (?EL) ((∀j,j<i->t j<W)) (∀H' spot st s',?gG->?zL->?wF->(?gW->st<?g0)->SX CS H0 H' p q M n W ?t4 ?x (?ZP i)->?aU)
def ET[?b6][?aD]:Sp:=fun vs H Q _=>Th fun ?M4 (r b:V)=>E5 (vs=[?a8,r,b]) (?X0 CS []) (∀q H' fs,H q=none->fs=putF ?z6 (?f q) (?DM)->?sF->H' q=?WO []->H' p=?c (?b5 CS dx fs)->?aU)
universe e9
universe Hb
namespace L2
open PySem PySem.Spec PyProof.Rows PySem.SeqAt
theorem Zo(a b:Addr)(ms ns:?wU):Meets (Builtin.«dict.__ne__» ?PV) (fun A R s=>?ER/\?HS/\R (.ok (.ret (?rD ?wA))) s) :=
 Meets.of_wp fun prog w A R s hs=>by
  obtain⟨ha,hb,h⟩:=hs
  show ?bJ ?tK A.in1 (do
   let (self,other) ←Builtin.Dict.dictSlotArgs ?uL ?PV
   if !(←isInstance other (.type ?A8)) then rule s!"dict.{?uL}.not-a-dict";return ←ret .notImplemented
   ret (?rD ((←Builtin.Dict.samePairs s!"dict.{?uL}" (←?GT self) (←?GT other))==false))) _ _ s
  unfold Builtin.Dict.dictSlotArgs;refine qa5 (qa5 (wpAny_notOrdered_dict ?KJ ?_));refine qa5 (?qB);refine ?qB;refine qa5 (?TZ (T:=?A8) (b:=true) ?PR isSubtype_dict_dict ?_);rw[?j ?bW];refine qa5 (qb7 (qa5 (qb7 (qa5 (CC ha hb ?_)))));have e:∀b:Bool,(b==false)=!b:=?c0
  rw[e];exact qb7 ⟨_,rfl,h⟩
theorem RcNeAt.dicts{A:Around}{s:Shared}{a b:Addr}{ms ns:?wU}(ha:?ER)(hb:?HS)(hu:A.units<cLine) :
 RcNeAt A s (?y) (?bH) ?wA:=fun prog w E Q h =>
 richCompare_meets_room (op:=.NotEq) ?KJ ?PR PySem.F.slot_dict_ne PySem.F.entry_dict_ne (PySem.F.args_dict_ne_2 _ _) (Zo a b ms ns)
  ⟨ha,hb,show Value.bool ?wA≠Value.notImplemented/\_ from⟨(fun x=>nomatch x),h⟩⟩ hu
inductive xM(x:V)(y:V)(H:Hp)(Q:VK):Prop
 | mk:∀a b ms ns,(x=?y)->(y=?bH)->(?sG)->(Rd H b (.dK (cK ns)))->(Q (?TB) H)->?R6
def A68:R2:=fun x y H Q=>?R6
section
variable{X:Cx}{n:Nat}[?L]
theorem cJ(hu:X.A.units+n<cLine):OpR X (compareOp .NotEq) A68:=by
 intro Ad s σ H x y v u Q I rx ry h;obtain⟨a,b,ms,ns,rfl,rfl,ha,hb,q⟩:=h;cases rx;cases ry;exact RcNeAt.dicts (I.idict ha) (I.idict hb) O9m ?w4 X.w X.xe _ ⟨?TB,H,I,rfl,q⟩
theorem NS(hc:?OX):?WZ X.K:=by
 intro Ad s σ H xs us Q I r h;obtain⟨p,bs,rfl,hq,q⟩:=h;obtain⟨u,rfl,ru⟩:=X9 r;cases ru;obtain⟨its,rv,pl,hz⟩:=?O3;have hh:X.A.handled=none:=?JD
 have rel:∀(i:Nat) (v:Value),its.toArray[i]?=?b3->∃b,?r8=?c b/\v=?qO:=fun i v e=>by
  have e':its[i]?=?b3:=?lO
  have hlt:i<its.length:=(?bC e').1;have l1:=rv.length;rw[qa4]at l1;have hb:?r8=?ZV bs:=by simp<;>omega
  obtain⟨u,hu,ru⟩:=rv.get (i:=i) (x:=V.bl (bs[i]' ?eV)) (by rw[qa9,hb];rfl);rw[e']at hu;cases hu;exact⟨_,hb,ru⟩
 refine call_any_walk (qt9 pl.isList ?_);refine⟨?b7,[s.heap.objs.size,p],[s.heap.objs.size],?O4,_,_,?R8,rfl,Walks.list (show X.A.in1.handled=none from hh) ?b7 p ?_ ?k7,⟨⟨_,?AW,rfl,rfl⟩,?_⟩,?_,fun h' tk k=>?_⟩
 . obtain⟨o,_,ho,_⟩:=pl;exact qd1 (qb2 ho)
 . exact pl.isList.at fun o e=>qa7 _ e
 . intro i v s' Q' E' hv hQ;obtain⟨b,hb,rfl⟩:=rel i v hv;dsimp only at hQ;rw[hb]at hQ;exact qk0 hQ
 . have e:(?hS ?O4).any (?R8)=?v6:=by
    have l1:=rv.length;rw[qa4]at l1;rw[qc2,←l1];rw[qm5,qp5,qp5];constructor
    . rintro ⟨i,hi,hx⟩;have hlt:=?h7;have hb:?r8=?c bs[i]:=?g9
      rw[hb]at hx;exact⟨_,qe0 hlt,hx⟩
    . rintro ⟨b,hb,hx⟩;obtain⟨i,hi⟩:=qg0 hb;refine⟨i,?kD ?uA,?_⟩;rw[hi];exact hx
   rw[e];have I1:Bo X Ad σ H { s with heap:=h',toks:=tk }:=I.kept (fun b o e=>k b o (by simp;exact qd1 (qb2 e)) (qa7 _ e));exact⟨?L1,H,I1,rfl,q⟩
theorem BR:?GR "any"=?c (?qF "any"):=?t
theorem Zx(hc:?OX)(hK:X.K=K:=by rfl):?WZ K:=by subst hK;exact NS hc
universe e9
universe L2
namespace Hb
open PySem L2
def XW:?u:=["straighten","step","put_in_order","share"]
section
variable[?L][?aW]
theorem Z3{nm a:Addr}(h:a≠nm):?S1=H a:=Ud h
theorem MU{nm a:Addr}(h:a=nm):?S1=none:=Z2 h
theorem WB[?tT][?jA](h:?NA)[?tO]:SqL K H' a xs:=by
 ext tR
 . ext VG
 . ext VB
 . exact ?eP
theorem jY[?tT][?jA](h:?fW)[?tO]:Ed K H' a xs:=by
 ext tR
 . ext VG
 . ext VB
 . exact ?eP
theorem Ak2{nm:Addr}{ys:?p}{o:HO}[?jA](h:?fW)(hn:H nm=?nB):Ed K (upd H nm o) a xs:=by
 rcases h with(h|⟨u,h⟩) | h
 . exact ?a0K ?MF
 . exact ?YA u ?MF
 . exact ?eP
theorem oS{m i:Nat}[?c4]{x:Int}(hi:i<m):(VI m f).set i (?d x)=(Jq m fun k=>if k=i then x else f k).map ?a3:=by
 show _=VI m _;apply qs2;intro j;rw[qo9,Bu];by_cases hj:i=j
 . subst hj;rw[?I,?iH,Cp hi,?I]
 . rw[?zM];by_cases h2:j<m
   . rw[Cp h2,Cp h2,?j ?SX]
   . ext VO
theorem Bi9[?tT]{v:V}{n w:Nat}[?tY](h:?X6 w f)[?tO]:Rep K H' v (dT n w f):=by
 obtain⟨a,us,rfl,hq,hl,hr⟩:=Id h;refine GL (WB hq hp sx) hl ?nU;have e:=qa0 (l:=us) (i:=i) O9m;obtain⟨_,b,eb,hb⟩:=hr i _ e;exact⟨b,?PF,WB hb hp sx⟩
universe e9
theorem LX.x[?aW][?tM][?u3]{q D dx:Addr}{fs:?U (Str × V)}[?tU](hq:H q=?c (?b5 D dx fs))(hqp:q≠p)(sx:?pX q H H')(kp:?rG):?UD:=by
 ext C3;exact⟨⟨dx,fs,sx _ _ hqp.symm h1,h2⟩,⟨as,a1.x hq sx,a2⟩,⟨bs,b1.x hq sx,b2⟩,?eS,x.nr,x.nb,fun a ha=>kp a (x.nn a ha)⟩
theorem LX.more[?aW][?tM]{N N':?fT}[?tU](e:?J)(h:∀a,N' a->N a\/?xP)(hn:∀a,N' a->H' a≠none):?ZE H' N':=by
 ext C3;refine⟨?L9,⟨as,?S7,?a0D ?zK ?zK⟩,⟨bs,?JU,?a0D ?yX ?yX⟩,?eS,?c6,?c6,hn⟩
 . exact ?P9 ?qL (a1.there.2 a ha)
 . exact ?P9 ?OL (b1.there.2 a ha)
 . exact(h r z).elim x.nr a1.there.1
 . exact(h b z).elim x.nb b1.there.1
structure WX[?i](CL CW:Addr)(H0 H:Hp)(p L R nm:Addr)[?e4](M:?sB)[?j8](ns:?F):Prop where
 ob:Nv fun tv dx fs=>?X0 CW fs/\EE (?XK ?gC tv) (?XK ?oC (?x3)) (?XK ?xD (?f L)) (?XK ?AG (?f R)) (?XK ?JH (?f nm)) ((∀m∈XW,?IJ)) (fs.length<=10) (∀M',M=?c M'->Rep K (Ue H ?U3) tv (dT n w M'))
 li:Th fun r1 b1 r2 b2=>?TS/\?IO/\B4 (?XW r1) (?XW b1) (?XW r2) (?XW b2)
 nu:?a1J nm (?lK ?a3)
 same:?nL
 fr:?qR/\?XW L/\?XW R/\?XW nm
 ne:p≠L/\p≠R/\L≠R
 sm:n<=60/\w<=60
def OB(m:Nat)(M:Lat.Mat):?F:=((?hS m).map fun i=>?qE).filter fun x=>?m (x≠0)
theorem WX.keep[?L][?n9]{H0 H H':Hp}[?C9][?tN][?d7]:?WR H' M:=by
 ext UZ;exact⟨⟨tv,dx,fs,?SQ,l1,l2,l3,l4,l5,l6,l7,?a0V (oV s)⟩,⟨r1,b1,r2,b2,lx.keep s,?U8,f⟩,?O6,?y8 s,x.fr,?eS,?fQ⟩
theorem WX.num[?L][?n9]{H0 H:Hp}[?C9]{ns ns':?F}(x:?DY):WX K CL CW H0 (?Y2 nm (ns'.map ?a3)) p L R nm n w M l r ns':=by
 ext UZ;have hpn:p≠nm:=Fh hp ?gR ?bS
 have go:∀{q r b:Addr}{m:Nat}{s:?M}[?u3],LX H CL q r b ?H m m s N->N nm->LX (?Y2 nm (ns'.map ?a3)) CL q r b ?H m m s N:=fun {q r b m s N} y hN=>by
  obtain⟨d2,f2,e1,e2⟩:=y.ob;obtain⟨as,a1,a2⟩:=y.rw;obtain⟨bs,b1,b2⟩:=y.bk;refine⟨⟨d2,f2,by rw[Ai (Fh e1 ?gR ?bS)];exact e1,e2⟩,⟨as,a1.put (?a21 y.nr ?sH) fun a ha z=>?qL ?sH,a2⟩,⟨bs,b1.put (?a21 y.nb ?sH) fun a ha z=>?OL ?sH,b2⟩,y.ne,y.nr,y.nb,fun a ha z=>?_⟩;by_cases e:a=nm
  . rw[e,Ab]at z;cases z
  . rw[Ai e]at z;exact y.nn a ha z
 refine⟨⟨tv,dx,fs,by rw[Ai hpn];exact hp,l1,l2,l3,l4,l5,l6,l7,?a0V (bH fun a o n e=>by rw[Ai n];exact e)⟩,⟨r1,b1,r2,b2,go lx (?g rfl),go ly rfl,f⟩,Ab,fun a o e=>by rw[Ai (Ao e x.fr.2.2.2)];exact ?A3,x.fr,?eS,?fQ⟩
theorem WX.drop[?L][?n9]{H0 H:Hp}[?C9][?tN]:?WR H ?H:=by
 ext CB;exact⟨⟨tv,dx,fs,hp,l1,l2,l3,l4,l5,l6,l7,?AQ⟩,x.li,?gR,x.same,x.fr,?eS,?fQ⟩
theorem WX.left[?L][?n9]{H0 H H1 H':Hp}{p L R nm r1 b1 r2 b2 r' b':Addr}{n w:Nat}{M:?sB}{l r l':?M}[?tN](lx:?TS)(ly:?IO)[?VY]
 (s:?iR) (sx:?pX L H1 H') (h1:?YB H1 r') (h2:?YB H1 b') (y:LX H' CL L r' b' ?eT n n l' ?t3):WX K CL CW H0 H' p L R nm n w ?eT l' r ns/\?XY H' r:=by
 ext CB;obtain⟨dl,fl,hL,_⟩:=lx.ob;obtain⟨dl',fl',hL',_⟩:=y.ob;obtain⟨n1,n2,n3⟩:=x.ne;have kp:Kp H1 H':=Kp.x sx hL';have lz:=(?U8).x (?a00 hL) n3 sx kp;have s0:=?y8 s;exact⟨⟨⟨tv,dx,fs,sx _ _ n1 (?SQ),l1,l2,l3,l4,l5,l6,l7,?AQ⟩,⟨r',b',r2,b2,y,lz,s0.free h1,s0.free h2,f3,f4⟩,sx _ _ (Fh ?gR hL ?bS) (?O6),sx.same s0 x.fr.2.1,x.fr,?eS,?fQ⟩,lz⟩
theorem WX.right[?L][?n9]{H0 H H':Hp}{p L R nm r1 b1 r2 b2:Addr}{n w:Nat}{M:?sB}{l r r':?M}[?tN](lx:?Y9 H ?eT)(ly:?XY H r)(f1:?YB H0 r1)(f2:?YB H0 b1)[?VY]
 (fr:Wi r2 b2 H H') (kp:?rG) (y:?XY H' r'):WX K CL CW H0 H' p L R nm n w ?eT l r' ns/\?FN:=by
 ext CB;obtain⟨dl,fl,hL,hL2⟩:=lx.ob;obtain⟨as,a1,a2⟩:=lx.rw;obtain⟨bs,b3,b4⟩:=lx.bk;obtain⟨jN,c1,_⟩:=ly.rw;obtain⟨bs2,c2,_⟩:=ly.bk;have no:∀a C d f,H a=?c (?b5 C d f)->H' a=?c (?b5 C d f):=fun a C d f e=>fr _ _ (Fh e c1.2.1 ?bS) (Fh e c2.2.1 ?bS) e
 have lz:?FN:=⟨⟨dl,fl,no _ _ _ _ hL,hL2⟩,⟨as,a1.keep (fun o e=>?WP ?sI ?sI) fun a ha o e=>?WP ?qL ?qL,a2⟩,
  ⟨bs,b3.keep (fun o e=>?WP ?sC ?sC) fun a ha o e=>?WP ?K9 ?K9,b4⟩,lx.ne,?sI,?sC,fun a ha=>kp a (lx.nn a ha)⟩
 exact⟨⟨⟨tv,dx,fs,no _ _ _ _ hp,l1,l2,l3,l4,l5,l6,l7,?AQ⟩,⟨r1,b1,r2,b2,lz,y,f1,f2,f3,f4⟩,fr _ _ (?XG ly.nr) (?XG ly.nb) ?gR,?Z5 f3 f4,x.fr,?eS,?fQ⟩,lz⟩
theorem Qc(i:Nat)(M:Lat.Mat):OB ?x M=if ?qE=0 then ?BH else ?BH++[?qE]:=by
 unfold OB;rw[qj7,qb4,qo5];by_cases h:?qE=0<;>simp[h]
theorem UL(i:Nat)(M:Lat.Mat):?XB ?BH i:=by
 unfold OB;refine qa6 (qj8 _ _) ?_;rw[qa4,qo8];ext d9
structure Td[?e4](M:Lat.Mat)[?j8](Nx:?B1):Prop where
 ex:∃J1,GS n ?E J1/\(∀t,J1 0 t (?BP w M l.1,l.2))/\(∀i t s,J1 i t s->?sA)/\∀t1 s1,J1 n t1 s1 →
  ∃J2,GS w (n+w) J2/\(∀t,J2 0 t (?BP n (?a0C i) r.1,r.2))/\(∀i t s,J2 i t s->∀j,j<i->t j<n+w)/\∀t2 s2,J2 w t2 s2 →
    Nx (fun i j=>s2.1 j i) (fun x a=>s1.1 x ?eR,s1.2) (fun x a=>s2.1 x (n+a),s2.2)
section
variable[?i][?aD]
def O7:Sp:=fun vs H Q _=>Th fun ?eL ?hZ ?o2=>Hq ?o1 (?X6 w M) ?rW (w<=1000) ((?kM->?pQ)) ((¬?kM->?XV (.bl ?qX)))
def EU[?i][?aD]:Sp:=fun vs H Q _=>XQ fun ?cP ?M4 ?eL ?hZ ?o2=>EE (vs=[?a8,v,?x3]) (?nL) (?qR) (?X0 CW []) (Rep K H0 v (dT n w M)) (n<=60) (w<=60) (∀L R nm H',WX K CL CW H0 H' p L R nm n w ?wN ?hJ ?hJ []->?aU)
def eU[?i][?aD]:Sp:=fun vs H Q _=>VT fun ?cP ?nT ?hZ ?o2 ?kF ?JO (Nx:?B1)=>B4 ?oS (?WR H ?wN) (?ZU Nx) (∀L' R' M' l' r' H',Nx M' l' r'->WX K CL CW H0 H' p L' R' nm n w (?c M') l' r' ns->?aU)
def Po[?i][?aD]:Sp:=fun vs H Q _=>GX fun ?cP ?nT ?hZ ?o2 ?kF (U:?EJ)=>D6 ?oS (WX K CL CW H0 H p L R nm n w ?wN l r []) (?ZU (fun M' l' r'=>∃m,?xL)) ((∀m M' l' r',?xL->¬?R7->Td n w M' l' r' (fun M2 l2 r2=>∃m',m'<m/\U m' M2 l2 r2))) (∀L' R' m M' l' r' H',?xL->?R7->WX K CL CW H0 H' p L' R' nm n w (?c M') l' r' (OB ?l3 M')->?aU)
structure ED[?e4][?fG][?aM][?j8]:Prop where
 p1:0<f i/\(f i).natAbs<L9
 p2:f j≠0/\(f j).natAbs<L9
 bl:BO n n l/\BO n n (?jU i j 1 l)
 br:BO w w r
def YG[?fG](g:Int)[?aM]:?n:=Lat.put2 f i j g (?BE*f j)
def shL[?fG](g b:Int)[?aM](l:?M):?M:=?jU j i (-(b*f j / g)) (?jU i j 1 l)
def tO[?fG](g a b:Int)[?aM](r:?M):?M:=?vE i j a b (-(f j / g)) (?BE) r
def AU[?i][?aD]:Sp:=fun vs H Q _=>Ac6 fun ?cP ?nT (n w m i j:Nat) ?kF ?xV=>gY (vs=[?a8,?d ?cD,?d ?cV]) (?Y7 l) (i<j) (j<m) (m<=n) (m<=w) (?B7) ((?u8->Q ?eJ H)) (∀g a b H',?xG->WX K CL CW H0 H' p L R nm n w ?H (shL i j g b f l) (?YV b) (Jq m (YG i j g f))->?aU)
def aV[?i][?aD]:Sp:=fun vs H Q _=>VT fun ?cP ?nT (n w m:Nat) ?kF ?xV (V:?pJ)=>Lk ?oS (?Y7 l) (m<=n) (m<=w) (V 0 f l r) ((∀d i j f l r,V d f l r->d<5*m+m*m->i<j->j<m->?B7/\(?u8->V ?fA f l r)/\∀g a b,?xG->V ?fA (YG i j g f) (shL i j g b f l) (?YV b))) (∀d f' l' r' H',V d f' l' r'->?yS m m f'->WX K CL CW H0 H' p L R nm n w ?H l' r' (Jq m f')->?aU)
universe e9
structure l9[?e4](A:Lat.Mat)(Fin:?pJ):Prop where
 ex:∃(U:?EJ) (Y:Nat->?pJ),Td n w A ?hJ ?hJ (fun M l r=>∃m,?u7) ∧
  (∀m M l r,?u7->¬?kM->?ZU (fun M' l' r'=>∃m',m'<m/\U m' M' l' r')) ∧
  (∀m M l r,?u7->?kM->∃k f,OB ?l3 M=Jq k f/\k<=n/\k<=w/\Y k 0 f l r) ∧
  (∀k d i j f l r,?H7->d<?B2->i<j->j<k->?B7/\(?u8->Y k ?fA f l r)/\∀g a b,?xG->Y k ?fA (YG i j g f) (shL i j g b f l) (?YV b)) ∧
  ∀k d f l r,?H7->?LQ
structure l8[?i](H H':Hp)[?D0](n w k:Nat)[?aM][?j8]:Prop where
 same:?J
 tup:Ed K H' tp ?TY
 num:H' nm=?WO (VI k f)
 left:?a0M H'
 lback:?YG H'
 right:?YF H'
 rback:?a0N H'
 new:∀a,?T5->?xP/\∃us,H' a=?bR/\us.length<=60
section
variable[?i]
def Tt:Sp:=fun vs H Q _=>Xr fun ?eL ?hZ (A:Lat.Mat) (Fin:?pJ)=>Hq (vs=[v,?x3]) (?X6 w A) (n<=40) (w<=60) (l9 n w A Fin) (∀[?D0] (k:Nat) [?aM] [?j8] (H':Hp),?LQ->?yS k k f->k<=n->k<=w->?Q3->?NW)
universe e9
universe Hb
namespace Hb
open Lat
section
variable{C:?z5}{δ:Nat}
theorem BB.bo{n W β:Nat}{s:?bT}(h:?a10 β s)(hb:β<=big):?w8:=⟨(?ON).1,(?ON).2.1⟩
theorem EL{n W w i:Nat}{G:?z5}{R0 B0:Mat}[?gJ]{π b β:Nat}(H:Kd n W w i G R0 B0 t π b)(hW:W=w+n)(dl:F5 n w R0 B0)(bb:?a10 β (R0,B0))(hb:?v0)(hπ:?mA)(hpg:∀j,j<i->G ?eO)
 (hG:∀spot (s:?bT) st,?gG->?N7->Ie W (s.1 i) st->G st)
 (hd:∀t1 Y R1 B1 R2 B2,VS n W w i G R0 B0 t1 Y R1 B1->Pd n W w i R1 B1 t1 0 R2 B2->∀j,j<=i->(R2 j (t1 j)).natAbs<L9) :
 ∃I,Ab4 n W i t (R0,B0) I/\∀spot st s',?gG->?zL->?wF->(?gW->st<?g0) →
   JR n W ?rM i (?iE)/\G st/\VS n W w i G R0 B0 ?rM (b+i+3+2*π+i*(?g2)) (?iE).1 (?iE).2 ∧
   Pd n W w i (?iE).1 (?iE).2 ?rM 0 (?AF).1 (?AF).2 ∧
   ?a10 (β+?p1) (?AF):=by
 have hi:=H.hi
 have xE:∀spot,?gG->?BQ<=?p1:=fun spot hs=>by
  unfold Gg;exact qa6 (qb6 _ hs) ?mS
 refine⟨fun spot s=>?N7/\?a10 (β+?BQ) s,⟨⟨Dt.start H,by rw[Nat.zero_mul];exact bb⟩,?_,?_,?_⟩,?_⟩
 . rintro spot s _ ⟨p,_⟩;obtain⟨c,hc,h0⟩:=(p.good.dual dl).row hi;exact⟨w+c,O9m,h0⟩
 . rintro spot s hs ⟨p,q⟩ hz;refine⟨p.skip hz,q.mono ?_⟩;rw[qf8];omega
 . rintro spot s hs ⟨p,q⟩ hz h0;have kR:=xE ?b1 hs;rw[qf8,qf7]at kR;have en:β+?b1*?BW=β+?BQ+?BW:=by rw[qf8,qf7];omega
   have lA:(?yZ).natAbs<=?bE:=by rw[p.old ?h _ ?r hs];exact H.hd ?h hs
   have lB:=p.pv ?h ?r hs;refine⟨?dW q O9m,?a0T ⟨H.lt j hj2,p.pos j hj2,wN (π:=π) ?_ O9m⟩,⟨h0,wN lB O9m⟩,?sO,fun g a b' sh=>?_⟩
   . rw[p.old j _ hj1 hj2];exact H.hd j hj2
   . obtain⟨m1,m2,m3⟩:=p.meetAdd H hs hz hk q;refine⟨?ME,m1,?_⟩;rw[en];exact m3 _ O9m
   . obtain⟨m1,m2,m3,m4⟩:=p.meetBlend H hs hz (?MJ (p.pos ?h hs) lA lB) q;refine⟨?ME,?a0U m4,m1,?_⟩;rw[en];exact m4 _ O9m
 . rintro spot st s' hs ⟨p,q⟩ hB hex;have hGs:=hG ?h s' st hs p hB;obtain⟨e1,e2,e3,e4,e5⟩:=tX H p hs hB.1 hB.2.1 hB.2.2 hGs hpg hex q;refine⟨fun d hd'=>⟨?a0T ?_,fun m hm=>?dW (e5 d hd' m O9m) hb⟩,hGs,e1,e2,e4 _ ?r⟩;obtain⟨dn,_,_⟩:=a9 e1 hi (e3.mono (qv4 (xE i ?r) β)) d O9m;have hh:=hd _ _ _ _ _ _ e1 e2 j O9m;rw[e2.hd j ?e]at hh;have hx:=dn.hd j O9m;refine⟨e1.lt j O9m,(dn.s0).pos j O9m,?_⟩;rw[hx];exact hh
universe e9
noncomputable abbrev JF[?e4](M:Mat):?IT:=fun i t s=>Dx n ?E w i ?mJ M one t s.1 s.2
theorem Wx{n w b0 D π b β:Nat}{M:Mat}(hM:∀r c,r<n->?g5->(M r c).natAbs<=2 ^ b0)(dets:Pe n ?mJ M D)(h1:?xJ)(h2:?P2)(h3:?BT)(h4:b0<=b)(hβ:b<β)(hβ2:?zR)(hbig:?UP)(hπ:?mA)(dl:F5 n w M one) :
 GS n ?E (JF n w M):=by
 refine ?F2;have iD:i*D<=?b9:=qa6 (qb6 _ (qe2 hi)) h2;have H:=NC hM ?cW hJ hi h1 iD h3 h4;have bb:BB n ?E ?oU 0 β (s.1,s.2):=S9 hM ?cW (fun k a=>rfl) hJ (qe2 hi) iD h4 hβ hβ2
 obtain⟨I,P,e⟩:=EL H rfl (hJ.good.dual dl) bb (hbig i hi) hπ hJ.pg (fun _ _ _ _ _ hB=>hB.2.2) fun t1 Y R1 B1 R2 B2 I1 D1 j hj=>by
  have:=?YS hJ.next (show i+1<=n from hi);exact wN (qa6 ?V h1) O9m
 refine⟨I,P,?NV⟩;obtain⟨e1,_,e3,e4,_⟩:=e ?h st s' hs hI hB hex;exact⟨e1,hJ.next e3 e4⟩
theorem JF.lt{n w:Nat}{M:Mat}:∀i t s,JF n w M i t s->?sA:=fun _ _ _ h j hj=>h.st.lt j hj
def JL(n w r:Nat)(M B0:Mat)(kt:?o)(hd:?n)(π b η β:Nat):?IT:=fun i t s =>
 (i<=r/\?XC i (fun c=>c<w)/\?KF) ∨
 (r<=i/\?XC i ?mJ/\?KU)
theorem JL.lt{n w r:Nat}{M B0:Mat}[?tV]{π b η β:Nat}:∀i t s,?ZB i->?sA:=fun _ _ _ h j hj=>by
 rcases h with⟨_,h,_⟩|⟨_,h,_⟩<;>exact h.st.st.lt j hj
theorem Ws{n w r E π b η β:Nat}{e:Int}{T P PB:Mat}[?tV][?D4](he0:0<e)[?CH][?WD](hη:∀j,?e8->j<n->hd j<=?uV)
 (hβ:η+1<=β) (hbig:β+?pY<=big) (hE:E<=?bE) [?D1] (hb:n*E<=?b9) (hπb:π<=b) (hπ:?mA) (hη9:η<=8990) :
 GS n ?E (JL n w r ?fR PB kt hd π b η β):=by
 have rn:=g.sq.rn;have dets:=W7 (P:=P) g.dets;have zO:∀{i:Nat}[?gJ]{s:?bT},i<=r->?G2->?JL:=fun hi h j hj=>wN (qa6 (h.st.headD ?cW hi hj) hE) O9m
 have hηN:∀j,?e8->j<n->?fZ<=?uV:=fun j h1 h2=>by
  have p:=?uK;have q:=?YK hη;have:(?fZ:Int)<=((?uV:Nat):Int):=by rw[Int.natAbs_of_nonneg ?e];exact_mod_cast q
  exact_mod_cast this
 refine ?F2;by_cases hir:i<r
 . obtain⟨_,h,bb⟩:i<=r/\?G2/\?KF:=by
    rcases hJ with hJ|⟨h,_⟩
    . exact hJ
    . omega
   have H:=mO g (qf4 w n) h hir hE he (qa6 (qb6 _ (qe2 hi)) hb) hπb;have tm:?OD<=?jV:=lX π b hir;have tm':?OD=?y3+?p1:=rfl;have tn:?jV<=?pY:=qf4 _ _
   have hG:∀spot (s':?bT) st,?gG->Dt n ?E w i (fun c=>c<w) s.1 s.2 t π b ?h s'.1 s'.2->Ie ?E ?HR st->st<w:=fun spot s' st hs p hB=>by
    obtain⟨c,hc,h0⟩:=tH he0 g.sq (fun k c _ hc=>?h0 hc) hir ((h.st.good.mono (qn6 i)).trans p.good) ?r dl;rcases qh1 c st with z | z
    . exact ?W (hB.1 c z) h0
    . exact qb8 z hc
   obtain⟨I,Pu,ev⟩:=EL (C:=?q7) (δ:=?sS) (β:=β+?y3) H rfl (h.st.good.dual dl) bb O9m hπ h.st.pg hG fun t1 Y R1 B1 R2 B2 I1 D1 j hj=>by
    have:=?YS h.st.next (show i+1<=r from hir);exact wN (qa6 ?V hE) O9m
   refine⟨I,Pu,?NV⟩;obtain⟨e1,e2,e3,e4,e5⟩:=ev ?h st s' hs hI hB hex;exact⟨e1,?g ⟨hir,h.next hir e2 hs e3 e4,by rw[tm',←qs7];exact e5⟩⟩
 . have sR:r<=i:=O9m
   obtain⟨h,ab,bb,h9⟩:?YY ?mJ/\?KU:=by
    rcases hJ with⟨h1,h,bb⟩|⟨_,h⟩
    . have e:i=r:=O9m
      subst e;refine⟨h.wide fun c hc=>O9m,?_,?_,zO ?r h⟩
      . rw[qi4,Nat.zero_mul];exact vQ bb rn hβ
      . rw[qi4];exact bb
    . exact h
   have hsd:r+?rK=i:=O9m
   have row:∀c,?lU=?DW:=fun c=>h.st.good.rest i c ?r;have zero:∀c,c<kt i->?lU=0:=fun c hc=>by rw[row];exact ?t2 i c sR hi hc
   have hd0:0<s.1 i (kt i):=by rw[row,?wV i sR hi];exact K.pos i sR hi
   have ktW:=K.lt i sR hi;have bg:Ie ?E (s.1 i) (kt i):=⟨zero,O9m,ktW⟩
   have em:?J1=?NF+(?E0+(r+?rK)+3):=rfl;have emo:?J1<=?S9:=NF _ _ _ O9m;have tn:?IN:=rfl;rw[hsd]at em;refine⟨fun _ s'=>s'=s,⟨rfl,?_,fun _ _ _ hs _=>hs,?_⟩,?_⟩
   . rintro spot _ _ rfl;exact⟨kt i,ktW,O9m⟩
   . rintro spot _ hs rfl hz h0;exact ?W (h.skip K sR hi hs ?r) h0
   . rintro spot st s' hs e hB hex;have e:=e.symm;subst e;have est:=hB.one bg;subst est
     have esp:spot=i:=by
      rcases qh1 ?h i with z | z
      . exact ?W (h.skip K sR hi z (qe2 (hex z))) hB.2.1
      . omega
     subst esp
     have Bi6:insS ?h ?h ?rX s=s:=by
      have m1:moveS ?h ?h s=s:=by
       show(moveR s.1 ?h ?h,moveR s.2 ?h ?h)=s;rw[Q1,Q1]
      rw[insS,m1,?Q]
     rw[Bi6];obtain⟨k1,k2,k3⟩:=h.last K sR hi (fun c hc=>hc) ktW (C:=?q7) (δ:=?sS) bb (fun k hk=>ab k ?h hk ?r hi);have hbd:?QN<=big:=O9m
     have st':=k1.st.st
     have hh:∀d,d<=?xM->∀j,?z3->(downS (insT t ?h ?rX) ?h s d).1 j (?o5)=?xE:=fun d hd j hj=>by
      obtain⟨l1,_⟩:=k2 d hd;have:=l1.rows j (?o5);rw[this];split
      . rename_i z
        have tl:?o5<?AD:=by
         have:=st'.inc j ?h z.2 O9m;have e:insT t ?h ?rX ?h=?AD:=by unfold insT;rw[?Q,?I]
         omega
        rw[zero _ tl,qd9,qf1]
      . rfl
     have hs9:∀j,?z3->(?xE).natAbs<L9:=fun j hj=>by
      unfold insT;rcases qh1 j ?h with z | z
      . rw[?b8];exact h9 j z
      . have:j=spot:=O9m
        subst this;rw[?Q,?I,row,?wV j sR hi];exact wN (hηN j sR hi) O9m
     have hpos:∀j,?z3->0<?xE:=fun j hj=>by
      have:=st'.pos j O9m;rw[hh ?b1 ?r j hj]at this;ext bN
     refine⟨fun d hd=>⟨?a0T ⟨st'.lt j hj2,by rw[?J8];exact hpos j O9m,by rw[?J8];exact ?MR⟩,?vN⟩,?k ⟨O9m,k1,?_,?_,fun j hj=>by rw[hh ?b1 ?r j ?e];exact ?MR⟩⟩
     . rcases qh1 m d with z | z
       . have:=k3 d O9m m z;rw[this];exact ?dW (k2 d O9m).2 hbd
       . have e:m=d:=O9m
         subst e;exact ?dW (k2 ?qI O9m).2 hbd
     . have:=h.above K sR hi hηN ab (?JV).1;rw[?G8,qf8,qf7];have e:?gX+((spot-r)*?fK+?fK)=?a04 η+1:=O9m
       rw[e];ext bN
     . rw[?G8,em];have:=(?JV).2;rw[show ?z7+(?HJ+(?a04 spot+3))=?QN by omega];ext bN
theorem PR{M:Mat}{k:Nat}(hp:∀x,x<k->0<M x x):∀m,k<=m->(∀x,k<=x->x<m->M x x=0)->OB m M=Jq k ?vZ:=by
 have base:∀j,j<=k->OB j M=Jq j ?vZ:=fun j=>by
  induction j with
  | zero=>intro _;rfl
  | succ j ih =>
    intro hj;have:=hp j O9m;rw[Qc,?Q,ih ?e,Zq]
 intro m
 induction m with
 | zero=>intro h _;exact ?S 0 ?k6▸(by rw[?Y8 k 0])
 | succ m ih =>
   intro h hz;by_cases e:k=m+1
   . subst e;exact ?S _ ?r
   . rw[Qc,?q (hz m ?e ?e),ih ?e fun x h1 h2=>hz x h1 ?e]
noncomputable abbrev VL:Nat:=67000000
def Mv(n:Nat)(s:?bT):Prop:=∀a b,a<n->b<n->pT n s.2 s.1 a b=?uZ
theorem Mv.one(n:Nat):Mv n ?hJ:=fun a b ha hb=>by
 show ?YI (fun k=>?fX k a*?fX k b)=_;rw[?aP ha fun k _ hk=>by unfold Lat.one;rw[?j hk,qg3]];unfold Lat.one;rw[?I,qd5]
theorem Mv.go{n w:Nat}{T:Mat}{l:?bT}{R B:Mat}(h:?oB)(e:∀a b,pT n B R a b=pT n l.2 (?P w T l.1) a b):Mv n (?zD,B):=fun a b ha hb=>by
 have:=e a (w+b);rw[←h a b ha hb];refine ?HT ?V ?_;exact Ak fun k _=>by rw[beside_hi]
theorem YO[?fG]:?NL<=1:=by
 unfold one;split<;>decide
theorem BU{n w W b:Nat}{T P:Mat}(hT:∀i c,i<n->c<w->?lW<=?b9)(hP:∀i c,i<n->c<W->(P i c).natAbs<=?b9):∀i c,i<n->c<w+W->(?DW).natAbs<=?b9:=fun i c hi hc=>by
 unfold beside;split
 . rename_i h;exact ?MP
 . exact ?GE
theorem W4{n w W b:Nat}{T P:Mat}(hT:∀i c,i<n->c<w->?lW<?b9)(hP:?a1 n W b P):?a1 n (w+W) b ?fR:=fun i c hi hc=>by
 unfold beside;split
 . rename_i h;exact ?MP
 . exact ?GE
theorem W5{n w W b:Nat}{R:Mat}(h:?a1 n (w+W) b R):?a1 n W b ?zD:=fun i c hi hc=>h i (w+c) hi O9m
theorem Ly{n W b b':Nat}{R:Mat}(h:?a1 n W b R)(hb:b<=b'):?a1 n W b' R:=fun i c hi hc=>qb3 (h i c hi hc) (qe9 ?bW hb)
theorem ZA{e:Int}{D π:Nat}(h:e<=D)(hD:?xJ)(h0:0<e):e.natAbs.log2<=π/\?uI:=by
 have h1:?uI:=by
  have:e.natAbs<=D:=O9m
  exact qa6 ?V hD
 refine⟨?_,h1⟩;have:e.natAbs.log2<?g2:=(Nat.log2_lt O9m).mpr (qb8 h1 (?pE));omega
theorem JL.done{n w r π b η β c:Nat}{M B0:Mat}[?tV][?gJ]{s:?bT}(rn:r<=n)(h:?ZB n)(hc:?pY<=c):(∃G,?XC n G)/\?a1 n ?E (β+c) s.1/\?a1 n n (β+c) s.2:=by
 have e:?IN:=rfl;rcases h with⟨h0,h,bb⟩|⟨h0,h,_,bb,_⟩
 . have en:n=r:=O9m
   subst en;have:=bb.mono (show β+Ej π b n<=β+c by omega);exact ?FZ
 . have:=bb.mono (show _<=β+c by omega);exact ?FZ
universe Hb
namespace Lat
open Hb
def Fv(f:?o):?o
 | 0=>0
 | n+1=>?BR
theorem Ll{f g:?o}:∀{n:Nat},(∀k,k<n->f k<=g k)->?o4<=?uF
 | 0,_=>?aS
 | n+1,h=>Nat.add_le_add (Ll fun k hk=>h k O9m) (h n O9m)
theorem Uv[?aM]:∀n:Nat,(?YI f).natAbs<=Fv (fun k=>(f k).natAbs) n
 | 0=>?aS
 | n+1=>qa6 (qf6 (?YI f) (f n)) (?LH (Uv f n) _)
theorem Yf(f:?o)(c:Nat):∀n:Nat,Fv (fun k=>f k*c) n=?o4*c
 | 0=>by show 0=0*c;omega
 | n+1=>by show Fv _ n+f n*c=(?BR)*c;rw[Yf f c n,qf8]
theorem JX{f g:?o}{c:Nat}:∀{n:Nat},c<n->f c=f c->(∀k,k<n->k≠c->f k=g k)->g c=0->?o4=f c+?uF
 | 0,h,_,_,_=>O9m
 | n+1,h,e,hk,h0=>by
   show ?BR=f c+(?uF+g n)
   by_cases z:c=n
   . subst z;have:Fv f c=Fv g c:=qi6 (Ll fun k hk'=>ql5 (?F7)) (Ll fun k hk'=>ql5 (?F7).symm);omega
   . have:=JX (n:=n) O9m rfl (fun k hk'=>hk k O9m) h0;have:=hk n O9m O9m;omega
theorem AQ{i:Nat}{R B:Mat}[?gJ](P:Part R t 0 i){a m:Nat}(h:∀j,j<i->(Al (?y6) i).natAbs<=m*?l7):∀j,j<i->(B j a).natAbs<=2 ^ j*m:=by
 intro j
 induction j using Nat.strongRecOn with
 | _ j ih =>
   intro hj;have pj:=P.pos j ?k6 hj;have hs:=h j hj;rw[?rQ (j:=j+1) ?e fun k h1 h2=>by rw[P.zero k _ ?k6 h2 (P.inc j k ?k6 ?e h2)];simp]at hs;have hs':(Al (?y6) j+?GK).natAbs<=m*?l7:=hs
   have b:=cG (f:=?y6) (m:=m) (h:=?l7) (j:=j) fun k hk=>by
    rw[qb1];obtain⟨r1,r2⟩:=P.red k j ?k6 hk hj;exact qf5 (ih k hk O9m) O9m
   have c:(?GK).natAbs<=2 ^ j*m*?l7:=qa6 (Xs hs') (by rw[qx2];exact b);rw[qb1]at c;exact qq8 c O9m
section
variable{n w r E:Nat}{e:Int}{T P PB R RB:Mat}{kt t:?o}{hd:?n}
theorem QE[?D4]{x:?n}[?jH](hx:∀c,c<w->v c=?DP)(hv:∀c,c<w->(v c).natAbs<=e.natAbs):?D9:=by
 have rn:=g.sq.rn;have rw':=g.sq.rw
 let a:Nat->?o:=fun c k=>if ?x5 then ?oL*(T k k).natAbs else 0
 have step:∀c,c<r->Fv (a c) n=a c c+?HF:=fun c hc=>JX O9m rfl (fun k hk ne=>by
  show(if ?x5 then _ else 0)=if ?qN then _ else 0
  by_cases z:?x5
  . rw[?b8,?q ⟨?uU,z.2⟩]
  . rw[?c9,?Q]) (by show(if c+1<=c/\c<r then _ else 0)=0;ext j9)
 have top:∀c,c<r->a c c<=e.natAbs+?HF:=fun c hc=>by
  have h1:=hx c O9m;have h2:=Qx (f:=?rU) (g:=fun k=>if k=c then ?mE else ?lJ) (n:=n+2) (p:=c) (q:=n+1) O9m O9m O9m
  have e1:?DP=?mE+?E1:=by
   have:∀m,c<m->m<=n->Al (?rU) m=?mE+Al (fun k=>?lJ) m:=fun m=>by
    induction m with
    | zero=>intro h;omega
    | succ m ih =>
      intro h hm;show Al _ m+?PC=?mE+(Al _ m+if c+1<=m/\m<r then ?PC else 0)
      by_cases z:c=m
      . subst z;have z1:Al (?rU) c=0:=?bO fun k hk=>by rw[g.low k c ?e ?e hk,qd9]
        have z2:Al (fun k=>?lJ) c=0:=?bO fun k hk=>by ext j9
        rw[z1,z2,?Q];omega
      . rw[ih ?e ?e];by_cases y:m<r
        . rw[?q ⟨?uU,y⟩];omega
        . rw[?Q,?KM m c ?e ?e ?e,qd9];omega
   exact ?V n O9m ?r
  have e2:(?mE).natAbs<=e.natAbs+(?E1).natAbs:=by
   have:=hv c O9m;rw[h1,e1,qx3]at this;exact Xs ?V
  refine qa6 (ql5 ?_) (qa6 e2 (qv4 (qa6 ?GN ?EK) _))
  . show(if c<=c/\c<r then _ else 0)=_;rw[?q ⟨?aS,hc⟩,qb1]
  . show(?lJ).natAbs<=if ?qN then ?oL*(T k k).natAbs else 0
    by_cases z:?qN
    . rw[?b8,?b8,qb1];obtain⟨r1,r2⟩:=g.red c k O9m z.2;exact ?H0
    . rw[?c9,?c9];ext d9
 have all:∀d,d<=r->Fv (a (r-d)) n+e.natAbs<=?yF:=fun d=>by
  induction d with
  | zero =>
    intro _
    have:Fv (a (r-0)) n<=Fv (?h6) n:=Ll fun k _=>by
     show(if r-0<=k/\k<r then _ else 0)<=0;ext j9;ext d9
    have z:∀m,Fv (fun _=>0) m=0:=fun m=>by induction m with
     | zero=>rfl
     | succ m ih=>show Fv (?h6) m+0=0;omega
    rw[z]at this;rw[qx0];omega
  | succ d ih =>
    intro hd;have i1:=?i9;have s:=step (r-?fA) O9m;have t:=top (r-?fA) O9m;rw[show r-?fA+1=r-d by omega]at s t;have p2:?ZW ?fA=?yF+?yF:=?QH
    omega
 have fin:=all r ?r;rw[qi4]at fin
 have le1:?NB<=?IP:=Ll fun k hk=>by
  show _<=if 0<=k/\k<r then _ else 0
  rw[?q ⟨?a4,hk⟩];have:=g.pos k hk;exact ?vJ
 have le2:∀m,r<=m->?IP<=?TP:=fun m=>by
  induction m with
  | zero=>intro h;rw[?Y8 r 0];ext d9
  | succ m ih =>
    intro h;by_cases z:r=m+1
    . rw[z];ext d9
    . have:=?i9;show _<=?TP+a 0 m;omega
 have:=le2 n rn;omega
theorem qF[?CH](he:1<=e.natAbs){x:?n}[?jH](rn:r<=n)(hx:∀c,?g5->v c=?YI (fun k=>x k*?p4))(hv:∀j,?e8->j<n->(v ?i3).natAbs<=?fZ)(h0:?D9):Fv ?s4 n<=?R1:=by
 have one:∀j,?e8->j<n->(x j).natAbs<=1+?vB:=fun j h1 h2=>by
  have p:=?uK;have e1:=hx ?i3 (?YK K.lt);rw[?rQ (j:=j+1) ?e fun k h3 h4=>by rw[?t2 k _ ?e h4 (K.inc j k h1 ?e h4),qd9]]at e1;have e2:v ?i3=?AP+?MY:=by rw[←?y7];exact e1
  have e3:(?AP).natAbs<=?vB*?fZ:=by
   rw[←Yf];refine qa6 (Uv _ j) ?EK;obtain⟨r1,r2⟩:=K.red k j h1 hk h2;show(x k*_).natAbs<=_;rw[qb1];exact ?H0
  have e4:=?YK hv
  have e5:(?MY).natAbs<=(1+?vB)*?fZ:=by
   rw[qf8,qf7];refine qa6 (Xs (a:=?AP) (m:=?fZ) ?_) (qv4 e3 _);exact qa6 (ql5 (?IV Int.natAbs e2.symm)) e4
  rw[qb1]at e5;exact qq8 e5 O9m
 have all:∀d,r+d<=n->?OZ+1<=?xH:=fun d=>by
  induction d with
  | zero=>intro _;rw[qx0];show Fv _ r+1<=_;omega
  | succ d ih =>
    intro hd';have i1:=?i9;have o:=one (r+d) O9m O9m;show ?OZ+(x (r+d)).natAbs+1<=_;rw[qh0];have:2 ^ d*2*?uT=?xH+?xH:=?dF
    omega
 have fin:=all ?oR O9m;rw[show r+?oR=n by omega]at fin
 have p1:?BL*?uT=?s6+?BL:=by
  rw[Nat.mul_add,Nat.mul_one,←Nat.mul_assoc,←qe1]
  congr 3
  omega
 have p2:?BL<=?s6:=qa6 (?wX) (qi0 _ he);have p3:?R1=?s6+?s6:=?QH
 omega
theorem Rk.le{M:Mat}{W:Nat}(K:Rk n W w r kt hd M){i j:Nat}(hi:i<n)(h1:?e8)(h2:j<n):(M i ?i3).natAbs<=?fZ:=by
 have p:=?uK;rcases ql2 i j with z | z | z
 . obtain⟨a,b⟩:=K.red i j h1 z h2;omega
 . rw[z,?y7];ext d9
 . rw[?t2 i _ ?e hi (K.inc j i h1 z hi)];exact ?a4
theorem AO{π β:Nat}{G:?z5}(he0:0<e)[?D1][?D4](g':Ft w n r E e (tr R))[?CH](K':Rk n ?E w r kt hd R)(s:?Q0)(b1:?a1 n n β P) :
 ?a1 n n ?O2 (?zD):=fun i a hi ha=>by
 obtain⟨x,hx⟩:=(?uB).1 i hi
 have h0:=QE g (x:=x) (v:=R i) (fun c hc=>by rw[hx c ?e];exact Ak fun k _=>by rw[?h0 hc]) fun c hc=>by
  obtain⟨a,b⟩:=g'.le c i hc hi;show(tr R c i).natAbs<=_;omega
 have h1:=qF K (e:=e) O9m g.sq.rn hx (fun j h1 h2=>K'.le hi h1 h2) h0;show(R i ?eR).natAbs<_;rw[hx ?eR ?e];refine qb8 (qa6 ?GN (qa6 (Ll (g:=fun k=>?oL*?xK) ?sO) ?_)) (m:=?pT*?bE*?xK) ?_
 . show(x k*_).natAbs<=_;rw[qb1,beside_hi];exact qe8 _ (qe2 (b1 k a hk ha))
 . rw[Yf];exact qb6 _ (qa6 h1 (qe8 _ he))
 . rw[←qe1,←qe1];ext CZ
theorem Yc{π β:Nat}(he0:0<e)[?D1][?UT][?WD](b2:?a1 n n β PB) :
 ?a1 n n ?O2 RB:=fun i a hi ha=>by
 have ex:∀k,∃y:?n,k<n->∀c,?g5->?p4=?YI (fun i=>y i*R i c):=fun k=>by
  by_cases hk:k<n
  . obtain⟨y,hy⟩:=(?uB).2 k hk;exact⟨y,fun _=>hy⟩
  . exact⟨?h6,fun z=>?W z hk⟩
 let y:?c7:=fun k=>Classical.choose (ex k)
 have hy:∀k,k<n->∀c,?g5->?p4=?YI (fun i=>?qZ*R i c):=fun k=>Classical.choose_spec (ex k)
 have ybd:∀k,k<n->(?qZ).natAbs<=?oE*e.natAbs:=fun k hk=>by
  refine AQ (R:=R) (B:=fun i _=>?qZ) (t:=t) (a:=0) (i:=n) ⟨fun j l _=>?lL j l,?NZ,?DK,fun l j _=>?s1 l j⟩ (?hE) i hi;rw[←hy k hk ?eO (?i7 j hj)];have p:=?ET;by_cases z:j<r
  . rw[?h0 ?QM];obtain⟨q1,q2⟩:=g.le k ?eO hk ?QM;exact qa6 (show(T k ?eO).natAbs<=e.natAbs by omega) (?vJ)
  . obtain⟨q1,q2⟩:=ker j O9m hj;rw[q2];rw[q1];exact qa6 (K.le hk O9m hj) (qm2 _ O9m)
 have rel:RB i a=?vI:=by
  have z:∀c,?g5->?DH=0:=fun c hc=>by
   have e1:?YI (fun l=>RB l a*?i0)=?AZ:=s.pt a c
   have e2:?AZ=?YI (fun l=>?lY*?i0):=by
    have:?AZ=?YI (fun k=>Al (fun l=>?NQ*?i0) n):=Ak fun k hk=>by
     rw[hy k hk c hc,←Bg];exact Ak fun l _=>?dF
    rw[this,Cl];exact Ak fun l _=>by rw[En]
   have e3:?DH=?YI (fun l=>RB l a*?i0+(-1)*(?lY*?i0)):=Ak fun l _=>?dF
   rw[e3,C4,Bg,e1,e2];omega
  have d:=s.dual dl
  have q:?vC=RB i a-?vI:=by
   have:?vC=?YI (fun c=>?a1Y (R l (w+c)*RB i c)):=Ak fun c _=>by
    rw[←En];exact Ak fun l _=>?qW
   rw[this,Cl]
   rw[?aP hi fun l hl ne=>by
    rw[Bg];have:=d l i hl hi;unfold pD at this;rw[this,?mF,qd9]]
   rw[Bg];have:=d i i hi hi;unfold pD at this;rw[this,?I,qm4]
  have q0:?vC=0:=?bO fun c hc=>by rw[z (w+c) ?e,qg3]
  omega
 rw[rel]
 have m1:(?vI).natAbs<=n*(?oE*?bE*?xK):=Pk fun k hk=>by
  rw[qb1];exact qf5 (qa6 (ybd k hk) (qe8 _ he)) (qe2 (b2 k a hk ha))
 refine qb8 m1 (qb8 (qb6 _ (qe2 (qp9 (n:=n)))) ?_);rw[←qe1,←qe1,←qe1];ext CZ
theorem Di.same{W n:Nat}{R:Mat}[?gJ](st:Di W n R t)[?jH](hv:In W n R v){j:Nat}(hj:j<n)(h0:∀k,k<j->?t5=0)(h1:v ?eO=?kO)(h2:∀k,j<k->k<n->0<=?t5/\?t5<R k ?lG):∀c,c<W->v c=R j c:=by
 obtain⟨x,hx⟩:=hv
 have hu:∀c,c<W->v c-R j c=?RM:=fun c hc=>by
  have e:?RM=?YI (fun k=>x k*R k c+(-1)*((?oG)*R k c)):=Ak fun k _=>?dF
  rw[e,C4,Bg,Dj,?q hj,←hx c hc];omega
 have all:∀k,k<n->(x k-?oG)=0:=fun k=>by
  induction k using Nat.strongRecOn with
  | _ k ih =>
    intro hk;have p:=?pR k hk;have e:=hu ?lG (?i7 k hk)
    rw[?aP hk fun i hi ne=>by
     rcases qh1 i k with z | z
     . rw[ih i z hi,qg3]
     . rw[?q5 i _ hi (?lL k i ?e hi),qd9]]at e
    have small:(?t5-R j ?lG).natAbs<?uJ:=by
     rcases ql2 k j with z | z | z
     . rw[h0 k z,?q5 j _ hj (?lL k j z hj)];omega
     . subst z;rw[h1];omega
     . have a:=h2 k z hk;have b:=?s1 j k z hk;omega
    rw[e,qb1]at small;refine qg5 fun ne=>?_;have:1*?uJ<=(x k-?oG).natAbs*?uJ:=?QX;omega
 intro c hc;have:=hu c hc;rw[?bO fun k hk=>by rw[all k hk,qg3]]at this;omega
theorem lS[?UT]{j:Nat}(h1:?e8)(h2:j<n):∀c,?g5->R j c=?P w T P j c:=fun c hc=>by
 refine(st.same ((?uB).2 j h2) h2 (?sO) ?_ (fun k hk hn=>?_) c hc).symm
 . by_cases z:k<r
   . rw[?h0 ?NO];exact ?KM j _ h1 h2 ?NO
   . rw[(ker k ?e ?e).1];exact ?t2 j _ h1 h2 (K.inc k j O9m hk h2)
 . obtain⟨a,b⟩:=?YK ker;rw[b,a];exact ?y7
 . obtain⟨a,b⟩:=ker k O9m hn;rw[b,a];exact K.red j k O9m hk hn
universe e9
universe Lat
namespace Hb
open Lat
section
variable{n w b0 D π b β D2 π2 b2 β2 C1 C2:Nat}{A:Mat}
universe e9
def i7(n:Nat)(f:?MC):Bool:=(?sJ).all f
theorem Lh{n:Nat}{f:?MC}(h:i7 n f=true):∀i,i<n->f i=true:=fun i hi=>qe5.mp h i (?kD hi)
universe Hb
namespace Lat
open Hb
theorem PF:∀(k:Nat) (s:?o),(∀x y,x<=k->y<=k->s x=s y->x=y)->∃x,x<=k/\k<=s x
 | 0,s,_=>⟨0,?aS,?a4⟩
 | k+1,s,h=>by
   apply Classical.byContradiction;intro no
   have lt:∀x,x<=k+1->s x<=k:=fun x hx=>by
    rcases qh1 k (s x) with z | z
    . exact ?W ⟨x,hx,z⟩ no
    . exact z
   obtain⟨x,hx,hk⟩:=PF k (fun x=>if s x=k then s ?a2 else s x) fun x y hx hy e=>by
    by_cases h1:s x=k
    . by_cases h2:s y=k
      . exact h x y O9m O9m (?IZ h2.symm)
      . rw[?eM,?e6]at e;have:=h ?a2 y ?r O9m e;omega
    . by_cases h2:s y=k
      . rw[?e7,?fV]at e;have:=h x ?a2 O9m ?r e;omega
      . rw[?e7,?e6]at e;exact h x y O9m O9m e
   have l1:=lt x O9m;have l2:=lt ?a2 ?r;by_cases h1:s x=k
   . rw[?eM]at hk;have:=h x ?a2 O9m ?r O9m;omega
   . rw[?e7]at hk;omega
theorem tE{n:Nat}{P PB P':Mat}(h:∀a b,a<n->b<n->pT n PB P a b=?uZ)(x:Nat):∀c,c<n->P' x c=?JS:=fun c hc=>by
 have e:?JS=?YI (fun a=>?xZ*pT n PB P a c):=by
  rw[Ak fun u _=>(En _ _ _).symm,Cl];refine ?Y4 ?_;show _=?xZ*?YI (fun k=>?s3*P k c);rw[←Bg];exact Ak fun k _=>by rw[qf2]
 rw[e,?aP hc fun a ha ne=>by rw[h a c ha hc,?mF,qd9],h c c hc hc,?I,qm4]
universe Lat
namespace Hb
open PySem L2
def Drawn(h w b0:Nat):Prop:=(h<=7/\w<=8/\b0=4)\/(h<=4/\w<=5/\b0=22)\/(h<=2/\w<=3/\b0=69)
structure Rz[?i](H:Hp)[?D0](n w k:Nat)[?aM][?j8]:Prop where
 tup:Ed K H tp ?TY
 num:?YR nm (VI k f)
 left:?a0M H
 lback:?YG H
 right:?YF H
 rback:?a0N H
theorem l8.r[?L][?aW][?W7][?j5][?VZ]:?DU:=⟨x.tup,.of x.num,?wE,?uX,?xX,?vV⟩
theorem Rz.same[?L][?aW][?W7][?j5][?W2][?d7]:?DU:=⟨s.seqT x.tup,s.seq x.num,?i6 s ?wE,?i6 s ?uX,?i6 s ?xX,?i6 s ?vV⟩
section
variable[?i]
universe e9
structure Sta where
 T:?c7
 f:?c7
 l:?c7
 lb:?c7
 r:?c7
 rb:?c7
def dot(x y:?n)(n:Nat):Int:=?YI (fun k=>x k*y k)
def dl(a b:Nat):Int:=?GF
structure Good(h w:Nat)(S:Sta):Prop where
 l1:∀r s,r<h->s<h->dot (S.l r) (S.lb s) h=dl r s
 l2:∀a b,a<h->b<h->Al (fun k=>S.lb k a*S.l k b) h=dl a b
 r1:∀r s,r<w->s<w->dot (S.r r) (S.rb s) w=dl r s
 r2:∀a b,a<w->b<w->Al (fun k=>S.rb k a*S.r k b) w=dl a b
 now:∀i j,i<h->j<w->S.f i j=dot (fun b=>dot (S.l i) (fun a=>S.T a b) h) (S.r j) w
def unit:?c7:=?QT
universe Hb
namespace Lat
open Hb
theorem Ye(g:?n):∀n,?HU=g 0+?LS
 | 0=>by show Al g 0+g 0=_;show 0+g 0=g 0+0;omega
 | n+1=>by
   show ?HU+g ?v=g 0+(?LS+g ?v)
   rw[Ye g n,qk9]
def Xj(A:Mat)(j:Nat):Mat:=fun r c=>A ?f0 (if c<j then c else c+1)
theorem DN:∀(n:Nat) (A:Mat),det ?v A=?RF
 | 0,A=>rfl
 | n+1,A=>by
   have e:∀i j,i<n+1->j<n+1->?DI=?GU:=fun i j _ _=>Dg fun r c _ _=>by
    show A (if r+1<i+1 then r+1 else r+1+1) ((if c<j then c else c+1)+1)=A ((if r<i then r else r+1)+1) (if c+1<j+1 then c+1 else c+1+1)
    congr 1
    . ext tX
    . ext tX
   show Al (fun i=>Tg i*A i 0*?YX Gq i) (n+1+1)=_;rw[Ye,Ye (fun j=>?LV*?YX Xj j)];have e0:?YX Gq 0=?YX Xj 0:=rfl;rw[e0]
   congr 1
   have l:Al (fun i=>?FP*?YX Gq ?x) ?v=Al (fun i=>Al (fun j=>?FP*(Tg j*A 0 ?bP*?DI)) ?v) ?v:=Ak fun i _=>by
    rw[DN n,Bg];rfl
   have r:Al (fun j=>?FL*?YX Xj ?bP) ?v=Al (fun j=>Al (fun i=>?FL*(Tg i*A ?x 0*?GU)) ?v) ?v:=Ak fun j _=>by
    rw[Bg];rfl
   rw[l,r,Cl];refine Ak fun j hj=>?z8;rw[e i j hi hj,Yq,Yq]
   grind
theorem Um:∀(n:Nat) (A:Mat),det n (fun r c=>A c r)=det n A
 | 0,_=>rfl
 | n+1,A=>by
   rw[DN n A];refine ?z8;rw[←Um n (Xj A i)];rfl
def VR[?e4](A:Mat)(D:Nat):Prop:=∀(k:Nat) (r c:?o),(∀x,x<k->r x<n)->(∀y,y<k->c y<w)->(det k fun x y=>A ?iW (c y)).natAbs<=D
theorem iR(k:Nat)(r:?o):(?ND)\/∀x y,x<k->y<k->r x=r y->x=y:=by
 by_cases h:?ND
 . exact ?t9
 . exact ?k fun x y hx hy e=>Classical.byContradiction (?a21 h ⟨x,y,hx,hy,z,e⟩)
theorem rC{k:Nat}(M:Mat)(s:?o){y0:Nat}(h0:y0<k):?a1X ?TF ?DR:=by
 by_cases z:y0=0
 . subst z
   congr 1
   exact Dg fun x y _ _=>by
    by_cases q:y=0
    . rw[?gE,q]
    . rw[?cU,?cU]
 rw[←Um k ?DR,←Um k ?TF];have e:=GH (A:=?mT) (?X1 0 k) h0 (?NM) (?nM) (?xT)
 have e1:B5 (B5 ?lC 0 ?nM) y0 (?xT)=?mT:=by
  rw[show B5 ?lC 0 (?nM)=?mT from Hs ?lC 0];exact Hs ?lC y0
 have e2:B5 (B5 ?lC 0 ?xT) y0 (?nM)=?SK:=by
  funext y x
  unfold B5;by_cases q:y=y0
  . rw[?gE,?Q,?gE]
  . rw[?cU];by_cases q2:y=0
    . rw[?q q2,?q q2]
    . rw[?j q2,?j q2,?cU]
 rw[e1,e2]at e;show ?a1X ?SK ?mT;rw[e,qc7]
theorem W6[?WA]:∀(k:Nat) (r s:?o),(∀x,x<k->r x<n)->(∀y,y<k->s y<w+n)->(det k ?M3).natAbs<=D
 | 0,r,s,hr,hs=>h 0 r s hr fun y hy=>O9m
 | k+1,r,s,hr,hs=>by
   rcases iR ?a2 r with⟨x,y,hx,hy,ne,e⟩ | inj
   . ext VW
   by_cases z:∃y,y<k+1/\w<=s y
   . obtain⟨y0,hy,q⟩:=z;rw[←rC (?YD y) s hy]
     have first:∀s':?o,w<=s' 0->(∀y,y<k+1->s' y<w+n)->(det ?a2 ?GM).natAbs<=D:=fun s' h0 hs'=>by
      show(Al (fun i=>Tg i*?P w A one (r i) (s' 0)*?IA) ?a2).natAbs<=D;have ih:∀i,i<k+1->(?IA).natAbs<=D:=fun i hi=>W6 h k (fun x=>r (if x<i then x else x+1)) (fun y=>s' (y+1)) (fun x hx=>hr _ (by ext cF)) fun y hy=>hs' _ O9m
      have cell:∀x,?P w A one ?iW (s' 0)=if r x=s' 0-w then 1 else 0:=fun x=>by
       unfold beside one;ext j9
      by_cases z:∃i,i<k+1/\r i=s' 0-w
      . obtain⟨i,hi,e⟩:=z
        rw[?aP hi fun x hx ne=>by
         rw[cell,?j fun q=>ne (inj x i hx hi (q.trans ?hA))];simp]
        rw[qb1,qb1,Xw,qf7,cell,?bB];show 1*_<=D;rw[qf7];exact ih i hi
      . rw[?bO fun x hx=>by
         rw[cell,?j fun q=>z ⟨x,hx,q⟩];simp]
        exact ?a4
     exact first (fun y=>?WT 0) q fun y hy'=>hs _ (by split;omega;ext cF)
   . have e:det ?a2 (?M3)=det ?a2 fun x y=>A ?iW (s y):=Dg fun x y _ hy=>?h0 (qi8 fun q=>z ⟨y,hy,q⟩);rw[e];exact h ?a2 r s hr fun y hy=>qi8 fun q=>z ⟨y,hy,q⟩
theorem VR.dets[?WA]:?KC:=fun i hi s hs=>W6 h i (fun x=>x) s (fun x hx=>O9m) hs
theorem few{n k:Nat}{f:?o}(h:∀x,x<k->f x<n)(inj:∀x y,x<k->y<k->f x=f y->x=y):k<=n:=by
 rcases qh1 n k with z | z
 . obtain⟨x,h1,h2⟩:=PF n f fun x y hx hy e=>inj x y O9m O9m e;have:=h x O9m;omega
 . exact z
theorem IK{n w B D:Nat}{A:Mat}(hA:∀i c,i<n->c<w->?I0<=B)(hD:∀i,i<=n->i<=w->DK i*B ^ i<=D):?K8:=fun k r c hr hc=>by
 rcases iR k r with⟨x,y,hx,hy,ne,e⟩ | h1
 . ext VW
 . rcases iR k c with⟨x,y,hx,hy,ne,e⟩ | h2
   . rw[←Um,Gc (A:=fun r' c'=>A (r c') (c r')) hx hy ne ?MA];exact ?a4
   . exact qa6 (RA fun x y hx hy=>hA _ _ (hr x hx) (hc y hy)) (hD k (few hr h1) (few hc h2))
structure Uy(k w:Nat)(Q:Mat)(p:?o):Prop where
 zero:∀j c,?fP->j<w->c<p j->Q j c=0
 inc:∀i j,k<=i->i<j->j<w->p i<p j
 lt:∀j,?fP->j<w->p j<w
 pos:∀j,?fP->j<w->0<Q j ?g4
 red:∀i j,k<=i->i<j->j<w->0<=Q i ?g4/\Q i ?g4<Q j ?g4
theorem Rk.loops{n w r:Nat}[?tV]{T Q:Mat}(h:Rk w (n+w) n r kt hd (?P n T Q)):Uy r w Q fun j=>kt j-n:=by
 have at':∀i j,?e8->j<w->Q i (kt j-n)=?P n T Q i ?i3:=fun i j h1 h2=>by
  have:=?F4;rw[←?NK n T Q i (kt j-n),show n+(kt j-n)=kt j by omega]
 refine⟨?GJ,?I4,?EN,?EN,?I4⟩
 . rw[←?NK n T Q j c];exact ?oM j _ h1 h2 O9m
 . have:=h.inc i j h1 h2 h3;have:=h.ge i h1 O9m;omega
 . have:=?YK h.lt;have:=?F4;omega
 . rw[at' j j h1 h2,?YK h.head];exact ?RO
 . rw[at' i j ?e h3,at' j j ?e h3,h.head j ?e h3];exact h.red i j O9m h2 h3
theorem Uy.congr{k w:Nat}{Q Q':Mat}{p:?o}(h:?A4)(e:∀j,?fP->Q' j=Q j):Uy k w Q' p :=
 ⟨fun j c h1 h2 h3=>by rw[e j h1];exact ?oM j c h1 h2 h3,h.inc,h.lt,fun j h1 h2=>by rw[e j h1];exact ?RO,fun i j h1 h2 h3=>by rw[e i h1,e j ?e];exact h.red i j h1 h2 h3⟩
universe Lat
namespace Hb
open Lat
structure lG(n w b0 D π b β D2 π2 b2 β2 C1 C2 F:Nat):Prop where
 dπ:?xJ
 nb:?P2
 wb:w*D<=?b9
 b0π:?BT
 πb:π<=b
 bβ:b<β
 nβ:?zR
 st:?UP
 π9:?mA
 d2:∀i,i<=n->i<=w->?wZ<=D2
 dπ2:D2<=?k5
 wb2:w*D2<=?AB
 bπ2:b<=π2
 πb2:π2<=b2
 bβ2:b2<β2
 wβ2:w+b<β2
 st2:∀i,i<w->?TJ
 π92:?SC
 c1:∀r,r<=n->r<=w->?a0X π n<=C1
 c2:∀r,r<=n->r<=w->?a0X π2 w<=C2
 f1:?a1H F
 f2:?a1P F
 fb:F<=VL
section
variable{n w b0 D π b β D2 π2 b2 β2 C1 C2 F:Nat}{A:Mat}
def UF[?W6](m:Nat)(M:Mat)(l r:?bT):Prop:=∃(k:Nat) (e:Int) (kl kr:?o) (hl hr:?n),Tc n w k D π m e A M l.1 l.2 r.1 r.2 kl kr hl hr/\m<=?a7/\e<=D/\(∀j,?fP->j<n->hl j<=?bE)/\(∀j,?fP->j<w->hr j<=?k5) ∧
 ?a1 n n (?kH) l.1/\?a1 n n (?kH) l.2/\?a1 w w (?hM) r.1/\?a1 w w (?hM) r.2/\?oB/\?wC/\?wR
theorem zY[?UX]:Td n w A ?OF ?OF (fun M l r=>∃m,?S0):=by
 have o0:∀b i j,?NL<=?b9:=fun b i j=>qa6 (YO i j) qk5;have hM:=BU (W:=n) hA fun i c _ _=>o0 b0 i c;refine⟨JF n w (?P w A one),Wx hM ?cW ?gM p.nb p.b0π (qa6 p.b0π p.πb) p.bβ p.nβ p.st ?t6 (Ui n w A),?RD,JF.lt,fun t1 s1 h1=>?_⟩;have hR:∀i c,i<w->c<n->((?a0C i) i c:Int).natAbs<=?b9:=fun i c hi hc=>qa6 (h1.rowD ?cW ?r (fun c h=>h) hc (show i<w+n by omega)) p.nb;have hM2:=BU (W:=w) hR fun i c _ _=>o0 b i c;have kX:Pe w (fun c=>c<n+w) (?P n (tr s1.1) one) D2:=(IK hR fun i h1 h2=>p.d2 i h2 h1).dets;refine⟨JF w n (?P n (?a0C i) one),Wx hM2 kX p.dπ2 p.wb2 p.bπ2 (qa6 p.bπ2 p.πb2) p.bβ2 p.wβ2 p.st2 p.π92 (Ui w n _),?RD,JF.lt,fun t2 s2 h2=>?_⟩;have bb1:=S9 hM ?cW (fun k a=>rfl) h1 ?r p.nb (qa6 p.b0π p.πb) p.bβ p.nβ;have bb2:=S9 hM2 kX (fun k a=>rfl) h2 ?r p.wb2 (qa6 p.bπ2 p.πb2) p.bβ2 p.wβ2;obtain⟨k,e,kn,kw,he,wk,hl,hr⟩:=HA (L:=π) ?cW kX h1 h2
 have up:∀{x:Int}{a q:Nat},x<=a->a<=2 ^ q->x<=2 ^ q:=fun {x a q} h1 h2=>by
  exact qu8 h1 (by exact_mod_cast h2)
 have km:k*?eE<=?a7:=?QX;exact⟨k*?eE,k,e,_,_,_,_,wk,km,he,fun j _ h=>up (hl j h) ?gM,fun j _ h=>up (hr j h) p.dπ2,Ly (W5 bb1.1) ?mS,Ly bb1.2.1 ?mS,Ly (W5 bb2.1) ?mS,Ly bb2.2.1 ?mS,(Mv.one n).go h1.good.pt,(Mv.one w).go h2.good.pt,fun j c _ hj hc=>qa6 (h2.rowD kX ?r (fun c h=>h) hj (show n+c<n+w by omega)) p.wb2⟩
theorem zC(p:?L7){m:Nat}{M:Mat}{l r:?bT}(h:?S0)(ns:¬Straight n w M):?ZU (fun M' l' r'=>∃m',m'<m/\UF n w D π β π2 β2 b2 A m' M' l' r'):=by
 obtain⟨k,e,kl,kr,hl,hr,wk,hm,he,ηl,ηr,q1,q2,q3,q4,v1,v2,sp⟩:=h;obtain⟨lg,le⟩:=ZA he ?gM ?dK;have rn:=wk.going.sq.rn;have rw':=wk.going.sq.rw;have c1:=p.c1 k rn rw';have c2:=p.c2 k rn rw';ext V7
 have sC:∀C,(?a7-m)*C+C<=(?a7+1)*C:=fun C=>by
  rw[qf8,qf7];exact ?LH (?K6) _
 ext VU;have b1:?kH+Mx π b π k n<=big:=O9m
 have SV:?hM+Mx π b π2 k w<=big:=O9m
 have β1:?g2<=?kH:=by have:=p.πb;have:=p.bβ;omega
 have β1':π2+1<=?hM:=by have:=p.πb2;have:=p.bβ2;omega
 have tb:∀{n' w':Nat}{T:Mat}{x:Nat},?g2<=x->Ft n' w' k D e T->∀i c,i<n'->c<w'->?lW<2 ^ x:=fun {n' w' T x} hx g i c hi hc=>by
  obtain⟨g1,g2⟩:=g.le i c hi hc;have:?lW<=?bE:=O9m
  exact qb8 ?V (?pE)
 have bl:=W4 (tb β1 ?mI) q1;refine⟨JL n w k (?P w M l.1) l.2 kl hl π b π (?kH),Ws ?mI ?dK ?tF wk.dl ηl β1 b1 ?gM le p.nb p.πb ?t6 ?t6,fun t=>?g ⟨?a4,?TG,wk.kl.bits ηl bl q2 β1⟩,JL.lt,fun t1 u1 j1=>?_⟩;obtain⟨⟨G1,K1⟩,_,_⟩:=JL.done rn j1 c1;obtain⟨d1,d2,d3,d4⟩:=Oi ?dK ?mI ?tF K1 wk.told;have z1:=AO (G:=G1) ?dK le ?mI d2 ?tF d3 ?FB q1;have z2:=Yc ?dK le ?mI ?tF ?FB K1.st.st (fun j hj=>K1.tab j hj O9m) (?YO K1.ker) wk.dl q2;have ker:Rk w (n+w) n k kr hr (?XT i):=wk.kr.table fun i c h1 h2 h3=>d2.sq.row0 i c h1 h2 h3;have dr:F5 w n (?XT i) r.2:=Hm wk.dr;have hπ2:?g2<=?hM:=by have:=p.πb;have:=p.bπ2;omega
 have br:=W4 (tb hπ2 d2) q3;refine⟨JL w n k (?XT i) r.2 kr hr π b π2 (?hM),Ws d2 ?dK ker dr ηr β1' SV ?gM le p.wb p.πb ?t6 p.π92,fun t=>?g ⟨?a4,?TG,ker.bits ηr br q4 β1'⟩,JL.lt,fun t2 u2 j2=>?_⟩;obtain⟨⟨G2,K2⟩,_,_⟩:=JL.done rw' j2 c2;obtain⟨_,nx⟩:=wk.next lg K1 K2;obtain⟨m0,wk'⟩:=nx ns;have k2:∀x c,x<w->c<n->tr u1.1 x c=Pf w n (tr A) (r.1 x) ((?FK) c):=fun x c hx hc=>U3 (T:=u1.1) (P:=?FK) d4 x c hx hc;obtain⟨h1,h2,h3,h4⟩:=Oi ?dK d2 ker K2 k2;have y1:=AO (G:=G2) ?dK le d2 h2 ker h3 ?x1 q3;have y2:=Yc ?dK le d2 ker ?x1 ?KX (fun j hj=>K2.tab j hj O9m) (?YO K2.ker) dr q4
 have en:∀C,(?J3)*C=(?a7-m)*C+C:=fun C=>by
  rw[show ?J3=?a7-m+1 by omega,qf8,qf7]
 refine⟨m-1,O9m,k,e,kl,kr,hl,hr,wk',O9m,he,ηl,ηr,?_,?_,?_,?_,v1.go K1.st.good.pt,v2.go K2.st.good.pt,?GJ⟩
 . rw[en,←qs7];exact z1
 . rw[en,←qs7];exact z2
 . rw[en,←qs7];exact y1
 . rw[en,←qs7];exact y2
 . show(u2.1 j (n+c)).natAbs<=_;rw[lS d2 ker ?x1 ?KX (fun j hj=>K2.tab j hj ?e) (?YO K2.ker) h1 h2 (n+c) ?e,beside_hi];exact sp j c h1 h2 h3
def YF[?W6](k d:Nat)[?aM](l r:?bT):Prop:=?EI/\d<=?B2/\BB n n ?oU 0 (β+?qG*?eZ+d*(2*π+4)) l/\BB w w ?oU 0 (β2+?qG*?j3+d*?eE) r/\?oB/\?wC/\(?H9)/\?wR
structure Ac4(n w D F b2:Nat)(A:Mat)(k:Nat)[?aM](l r:?bT):Prop where
 dg:?EI
 il:?oB
 ir:?wC
 bl:?a1 n n F l.1/\?a1 n n F l.2
 br:?a1 w w F r.1/\?a1 w w F r.2
 lo:?H9
 sp:?wR
theorem Al9[?UX]:l9 n w A (Ac4 n w D F b2 A):=by
 refine⟨UF n w D π β π2 β2 b2 A,YF n w D π β π2 β2 b2 A,zY p hA ?cW,fun m M l r h ns=>zC p h ns,?_,?_,?_⟩
 . rintro m M l r ⟨k,e,kl,kr,hl,hr,wk,hm,he,ηl,ηr,q1,q2,q3,q4,v1,v2,sp⟩ hS;have dg:=wk.diag hS;have sC:∀C,(?a7-m)*C<=?qG*C:=fun C=>?K6;ext VU;refine⟨k,?vZ,PR ?o3 _ (?QY) fun x h1 h2=>dg.zero x h1 O9m O9m,dg.mn,dg.mw,dg,?a4,⟨Ly q1 O9m,Ly q2 O9m,?J6⟩,⟨Ly q3 O9m,Ly q4 O9m,?J6⟩,v1,v2,(?ZD wk.kr.loops),sp⟩
 . rintro k d i j f l r ⟨dg,hd,bl,br,v1,v2,⟨pl,lo⟩,sp⟩ hdk hij hj;ext CS
   have lf:∀x,x<k->(f x).natAbs<=?bE:=fun x hx=>by
    have h1:=dg.le hx;have h2:=?o3 x hx;exact qa6 O9m ?gM
   have kk:?B2<=5*?A+?A*?A:=by
    have h:k<=?A:=O9m
    have:=qf5 h h;omega
   ext V7
   have dm:∀X,d*X+X<=?XH X:=fun X=>by
    have:=qb6 X (show d+1<=5*?A+?A*?A+1 by omega);rw[qf8,qf7]at this;ext bN
   have d1:=dm (2*π+4);have d2:=dm ?eE;ext V6;ext VS;have b1:BB n n ?oU 0 (β+?a7*?eZ+d*(2*π+4)+(1+1)) (addS i j 1 l):=bl.add O9m O9m (k:=1) (c:=1) ?bW;have lt1:∀{x:Nat},x<=?bE->x<2 ^ (?g2):=fun h=>qb8 h (?pE);refine⟨⟨⟨?UQ,?a0Q ?kB⟩,⟨by have:=?o3 j hj;omega,?a0Q ?kR⟩,⟨?dW bl O9m,?dW b1 O9m⟩,?dW br O9m⟩,fun QT=>⟨dg,O9m,bl.mono (by rw[qf8];omega),br.mono (by rw[qf8];omega),v1,v2,⟨pl,lo⟩,sp⟩,fun g a b' sh=>⟨?_,O9m,?_,?_,?_,?_,⟨pl,lo.congr fun x hx=>?_⟩,fun x c h1 h2 h3=>?_⟩⟩
   . have:=dg.share hij hj sh;unfold shL tO YG addS blendS;simp only[qn7];ext bN
   . have lb:(?JC).natAbs<2 ^ (2*π+1):=by
      refine qb8 (qh5 _ _) ?_;rw[qb1];refine qb8 (qf5 (qa6 sh.lb ?kB) ?kR) ?_;rw[←qe1];ext CZ
     have SV:=b1.add (p:=j) (q:=i) O9m O9m (k:=-(?JC)) (c:=2*π+1) (by rw[qc7];exact lb);refine SV.mono ?_;rw[qf8,qf7];omega
   . have:=br.blend (p:=i) (q:=j) O9m O9m O9m (x:=a) (y:=b') (z:=-(f j / g)) (u:=?BE) (c:=?g2) (lt1 (qa6 sh.la ?kR)) (lt1 (qa6 sh.lb ?kB)) (lt1 (by rw[qc7];exact qa6 (qh5 _ _) ?kR)) (lt1 (qa6 (qh5 _ _) ?kB));refine this.mono ?_;rw[qf8,qf7];omega
   . intro x y hx hy;rw[←v1 x y hx hy];exact(?a1G j i).trans (?a1G i j)
   . intro x y hx hy;rw[←v2 x y hx hy];exact FF _ _ (?X1 i w) (?X1 j w) O9m (?MJ (π:=π) (?UQ) ?kB ?kR).one x y
   . exact ?SU
   . have e:(?YV b').1 x=r.1 x:=?SU;rw[e];exact sp x c h1 h2 h3
 . rintro k d f l r ⟨dg,hd,bl,br,v1,v2,lo,sp⟩;have h:k<=?A:=?QY
   have kk:=qf5 h h;have f1:=p.f1;have f2:=p.f2;have dm:∀X,d*X<=?XH X:=fun X=>qb6 X O9m;ext V6;have d1:=dm (2*π+4);have d2:=dm ?eE;ext VS;exact⟨dg,v1,v2,⟨(?XM bl.mono).1,(?XM bl.mono).2.1⟩,⟨(?XM br.mono).1,(?XM br.mono).2.1⟩,lo,sp⟩
universe e9
universe Hb
namespace Lat
open Hb
def mulV(w:Nat)(A:Mat)(x:?n):?n:=fun i=>Al (fun j=>A i j*x j) w
theorem g8[?e4](A:Mat)(p x:?n):Pf n w A p x=?YI (fun a=>p a*?bL w A x a):=rfl
theorem RN{w:Nat}{Q QB:Mat}(h:∀a b,a<w->b<w->pT w QB Q a b=?uZ)(x:?n):∀c,c<w->x c=Al (fun y=>?XP x y*Q y c) w:=tE (P':=fun _=>x) h 0
def numAt[?aM](k i:Nat):Int:=if i<k then f i else 0
section
variable[?WC][?c4]
universe e9
universe Lat
namespace Hb
open PySem L2
section
variable[?i]
universe e9
section
variable[?i]
universe e9
universe Hb
namespace Lat
open Hb
section
variable[?WC][?c4]
theorem jS[?gK](hl:?TC)(hu:∀x,x<n->?LI=0):∀a,a<n->u a=0:=fun b hb=>by
 have e:?HB=u b:=by
  have:?HB=?YI (fun x=>?a25 (PB x b*P x a) n):=Ak fun x _=>by
   rw[←Bg];exact ?Y4 ?dF
  rw[this,Cl]
  rw[?aP hb fun a ha ne=>by
   rw[Bg];have:=hl b a hb ha;unfold pT at this;rw[this,?j fun q=>ne ?rA,qd9]]
  rw[Bg];have:=hl b b hb hb;unfold pT at this;rw[this,?I,qm4]
 rw[←e];exact ?a05 hu
theorem Hh.spare(h:?DD)(hl:?TC){y:Nat}(h1:k<=y)(h2:y<w):∀x,x<n->?bL w A (Q y) x=0 :=
 jS hl fun x hx=>by
  have:=?A1 x y hx h2;rw[g8]at this;rw[this];by_cases z:x=y
  . rw[?b8,z];exact ?oM y h1 O9m h2
  . rw[?c9]
theorem Hh.madeS(h:?DD)(hr:?yT)[?jH](hv:∀x,x<n->?bL w A v x=0):∀c,c<w->v c=Al (fun i=>?uN*?nV) ?kI:=fun c hc=>by
 have mw:=h.mw;have mn:=h.mn
 have z:∀y,y<k->?B8=0:=fun y hy=>by
  have e1:?KD=0:=by
   rw[g8];exact ?a05 hv
  have e2:?KD=f y*?B8:=by
   rw[Wd (p':=P y) (q':=fun c=>Al (fun u=>?XP v u*Q u c) w) ?aB (fun b hb=>RN hr v b hb),Nk,DY];rw[?aP (?X1 y w) fun u hu ne=>by rw[←Nk,?A1 y u ?e hu,?j fun q=>ne ?rA,qd9]];rw[←Nk,?A1 y y ?e ?e,?I,qf3]
  rw[e2]at e1;have p:=h.pos y hy;rcases qq4.mp e1 with q | q
  . omega
  . exact q
 rw[RN hr v c hc]
 have sp:∀d,k+d<=w->?OO=Al (fun i=>?uN*?nV) d:=fun d=>by
  induction d with
  | zero=>intro _;exact ?bO fun y hy=>by rw[z y hy,qg3]
  | succ d ih =>
    intro hd;have i1:=?i9;show ?OO+?XP v (k+d)*Q (k+d) c=_;rw[i1];rfl
 have:=sp ?kI O9m;rw[show k+?kI=w by omega]at this;ext bN
universe e9
section
variable{n w m i:Nat}{d v:?n}{A:Mat}
universe e9
universe Lat
namespace Hb
open Lat
def pN(n w b0 π b β π2 b2 β2 C1 C2 F:Nat):Bool :=
 (?m (n*?bE<=?b9/\w*?bE<=?b9/\?BT/\π<=b/\b<β/\?zR)&&(i7 n (?YP ?m (?v0))&&(?m (?mA) &&
 (i7 (?A+1) (?YP ?m (?wZ<=?k5))&&(?m (w*?k5<=?AB/\b<=π2/\π2<=b2/\b2<β2/\w+b<β2)&&(i7 w (?YP ?m (?TJ))&&(?m (?SC) &&
 (i7 (?A+1) (fun r=>?m (?a0X π n<=C1/\?a0X π2 w<=C2)) &&
 ?m (?a1H F/\?a1P F/\F<=VL)))))))))
theorem PM{n w b0 π b β π2 b2 β2 C1 C2 F:Nat}(h:pN n w b0 π b β π2 b2 β2 C1 C2 F=true):?ZA (?bE) (?k5):=by
 unfold pN at h;simp only[qc4,qm7]at h;obtain⟨⟨h2,h3,h4,h5,h6,h7⟩,h8,h9,k1,⟨k2,k3,k4,k5,k6⟩,k7,k8,k9,m1,m2,m3⟩:=h
 exact⟨?aS,h2,h3,h4,h5,h6,h7,fun i hi=>qd2 (Lh h8 i hi),h9,fun i h1 h2=>qd2 (Lh k1 i O9m),?aS,k2,k3,k4,k5,k6,fun i hi=>qd2 (Lh k7 i hi),k8,
  fun r hr hw=>(qd2 (Lh k9 r O9m):_/\_).1,fun r hr hw=>(qd2 (Lh k9 r O9m):_/\_).2,m1,m2,m3⟩
universe Hb
namespace Lat
open Hb
def MD:(?o)->?o
 | _,0=>1
 | B,n+1=>B 0*?jT
theorem W1:∀{n:Nat}{A:Mat}{B:?o},(∀r c,r<n->c<n->(A r c).natAbs<=B r)->(det n A).natAbs<=DK n*?yO
 | 0,A,B,_=>by show(1:Int).natAbs<=1*1;decide
 | n+1,A,B,h=>by
   rw[DN]
   have e:(?RF).natAbs<=?v*(B 0*(DK n*?jT)):=Pk fun j hj=>by
    have d:=W1 (n:=n) (A:=Xj A j) (B:=?vX) fun r c hr hc=>by
     unfold Xj;exact h ?f0 _ O9m (by ext cF)
    rw[qb1,qb1]
    have s:(Tg j).natAbs=1:=by
     unfold Tg;split<;>rfl
    rw[s,qf7];exact qf5 (h 0 j O9m hj) d
   refine qa6 e (ql5 ?_);show ?v*(B 0*(DK n*?jT))=(?v*DK n)*(B 0*?jT)
   grind
theorem TX(B:?o):∀n,MD (fun r=>2*B r) n=2 ^ n*?yO:=fun n=>by
 induction n generalizing B with
 | zero=>rfl
 | succ n ih =>
   show 2*B 0*MD (fun r=>2*B ?f0) n=?pT*(B 0*?jT);rw[ih ?vX,qh0]
   grind
theorem tY{B:?o}:∀{n:Nat},(∀r,r<n->0<B r)->0<?yO:=fun {n} h=>by
 induction n generalizing B with
 | zero=>exact Nat.one_pos
 | succ n ih=>exact Nat.mul_pos (h 0 O9m) (ih fun r hr=>h ?f0 O9m)
theorem pB[?c4]:∀{n:Nat},(?q8 f n).natAbs=MD (fun r=>(f r).natAbs) n:=fun {n}=>by
 induction n generalizing f with
 | zero=>rfl
 | succ n ih =>
   have e:∀m,?KQ=f 0*?J5:=fun m=>by
    induction m with
    | zero=>show 1*f 0=f 0*1;omega
    | succ m im =>
      show ?KQ*f ?qI=f 0*(?J5*f ?qI);rw[im,qf2]
   rw[e n,qb1,ih];rfl
section
variable[?W8]
theorem Uy.stair{k w:Nat}{Q:Mat}{p:?o}(h:?A4):Di w ?kI (?YP Q ?b0) (?YP p ?b0) :=
 ⟨fun j hj=>h.lt ?dJ O9m O9m,?Z4 h.inc,fun j c hj hc=>?oM ?dJ c O9m O9m hc,fun j hj=>h.pos ?dJ O9m O9m,?Z4 h.red⟩
theorem eO(st:?BJ)(hB:?PQ){r c:Nat}(hr:r<z)(hc:c<w):B ?iK c=Al (fun k=>L k ?iK*T k c) ?f0:=by
 rw[hB _ _ (?i7 r hr) hc];exact ?rQ O9m fun k h1 h2=>by rw[?q5 k _ h2 (?lL r k ?e h2),qg3]
theorem jM[?C1]{i c:Nat}(hi:i<z)(hc:c<w):?lW<=?oE*2:=by
 refine AQ (R:=L) (B:=T) (t:=p) (a:=c) (i:=z) ⟨fun j k _=>?lL j k,?NZ,?DK,fun k j _=>?s1 k j⟩ (?hE) i hi;rw[show Al (fun k=>T k c*L k ?g4) z=B ?g4 c by rw[hB _ _ (?i7 j hj) hc];exact Ak fun k _=>?xI];have:=?ET;exact qa6 (b2 _ _ (?i7 j hj) hc) (?vJ)
theorem nW[?C1]:∀i,i<=z->∀s:?o,(∀l,l<i->s l<w+z)->(det i ?IY).natAbs<=?PT:=fun i hi s hs=>by
 let Z:Mat:=?IY
 let V:Mat:=fun r l=>?H5
 have e:det i V=?q8 (fun j=>L j ?g4) i*?IW:=bY (T:=fun r j=>?zF) (fun r c _ _=>rfl) i ?r
 have e2:?IW=det i Z:=Dg fun r c hr _=>by
  show(if r<i then Z r c else V r c)=Z r c;rw[?q hr]
 rw[e2]at e
 have vle:∀r l,r<i->l<i->(?tC).natAbs<=2*?B6:=fun r l hr hl=>by
  have pr:=?TQ;by_cases c1:s l<w
  . have:?tC=B ?iK (s l):=by
     rw[eO st hB ?e c1];exact Ak fun j _=>by show ?zF*?SO=_;rw[?h0 c1]
    rw[this];exact qa6 (b2 _ _ (?i7 r O9m) c1) O9m
  . have zv:∀j,Z j l=if j=?i8 then 1 else 0:=fun j=>by
     show ?SO=_;unfold beside;rw[?j c1];rfl
    by_cases c2:?i8<r+1
    . have:?tC=L (?i8) ?iK:=by
       show ?H5=_;rw[?aP c2 fun j _ ne=>by rw[zv,?mF,qd9],zv,?I,qm4]
      rw[this];rcases qh1 (?i8) r with q | q
      . obtain⟨r1,r2⟩:=?s1 (?i8) r q O9m;omega
      . rw[?Y8 ?i8 r];omega
    . have:?tC=0:=?bO fun j hj=>by rw[zv,?Q,qd9]
      rw[this];exact ?a4
 have big:=W1 (B:=fun r=>2*?B6) vle;rw[e,qb1,pB,TX]at big;have pos:0<?U7:=tY fun r hr=>by have:=?TQ;omega
 refine qr3 (c:=?U7) ?_ pos;refine qa6 big (ql5 ?_)
 grind
universe e9
structure Lev(q m z:Nat)(D L G:Mat):Prop where
 st:∃p,?BJ
 du:∀i j,i<z->j<z->Al (fun c=>G i c*L j c) m=?LP
 cyc:∀i,i<z->?YC (L i)
 all:∀v:?n,(?YC v)->∀c,c<m->v c=Al (fun i=>Al (fun a=>?hC*v a) m*L i c) z
def gT(m:Nat)(G B:Mat):Mat:=fun i c=>?QF
section
variable{q m z w:Nat}{D L G B:Mat}
theorem Lev.first(m:Nat)(D:Mat):Lev 0 m m D one one:=by
 have d:∀i j,i<m->j<m->Al (fun c=>one i c*one j c) m=?LP:=fun i j hi hj=>by
  rw[?aP hi fun k _ ne=>?HW];unfold one;rw[?I,qd5];by_cases z:i=j
  . rw[?b8,?q ?bK]
  . rw[?c9,?j fun y=>z y.symm]
 refine⟨⟨fun i=>i,fun j hj=>hj,fun j k h _=>h,fun j c _ hc=>?j O9m,fun j _=>by show 0<one j j;unfold one;rw[?I];decide,fun k j hk _=>?_⟩,d,fun i _ x hx=>O9m,fun v _ c hc=>?_⟩
 . show 0<=one k j/\one k j<one j j;unfold one;rw[?Q,?I];decide
 . rw[?aP hc fun i hi ne=>by
    show _*one i c=0;unfold one;rw[?mF,qd9]]
   show v c=Al (fun a=>one c a*v a) m*one c c;rw[?aP hc fun a _ ne=>?HW];unfold one;rw[?I,qd5,qm4]
theorem Lev.told[?C5]:∀a c,a<m->c<w->?eH=Al (fun i=>L i a*gT m G B i c) z:=fun a c ha hc=>by
 rw[h.all (fun a=>?eH) (tw c hc) a ha];exact Ak fun i _=>?xI
theorem zV(m w:Nat)(G B:Mat)(v:?n)(i:Nat):?zG=Al (fun a=>?hC*?bL w B v a) m:=by
 have e1:?zG=?a0H (fun a=>?hC*?eH*v c) m:=Ak fun c _=>by
  show ?QF*v c=_;rw[←En]
 rw[e1,Cl]
 exact Ak fun a _=>by
  show Al (fun c=>?hC*?eH*v c) w=?hC*Al (fun c=>?eH*v c) w;ext CI
theorem Lev.next{E k:Nat}[?c4]{P PB Q QB:Mat}{p:?o}[?C5][?CJ](il:?wL)(ir:?yT)(lo:?A4) :
 Lev m w ?kI B (?YP Q ?b0) (?YP QB ?b0):=by
 have tl:=?HI;have mw:=dg.mw;refine⟨(?ZD lo.stair),fun i j hi hj=>?_,fun i hi x hx=>?_,fun v hv c hc=>?_⟩
 . have:=dg.dr ?dJ ?b0 O9m O9m;unfold pD at this;rw[show Al (fun c=>?MT*Q ?dJ c) w=Al (fun c=>Q ?dJ (0+c)*?MT) w from Ak fun c _=>by rw[qu4,qf3],this];by_cases z:i=j
   . rw[?b8,?gB]
   . rw[?c9,?Q]
 . have t0:=dg.spare il (y:=k+i) O9m O9m
   have e:?L0=Al (fun a=>L a x*?bL w ?mR (Q ?b0) a) z:=by
    have e1:?L0=?a0H (fun a=>L a x*?EW*?nV) z:=Ak fun c hc=>by
     rw[tl x c hx hc,←En]
    rw[e1,Cl]
    exact Ak fun a _=>by
     show _=L a x*Al (fun c=>?EW*?nV) w;ext CI
   rw[e];exact ?a06 t0
 . have t0:∀i,i<z->?zG=0:=fun i _=>by
    rw[zV];exact ?a06 hv
   rw[dg.madeS ir t0 c hc];exact Ak fun i _=>by rw[show ?uN=Al (fun a=>?PG*v a) w from ?Y4 ?xI]
universe e9
section
variable[?W3][?c4]
def turnL(z:Nat)(P L:Mat):Mat:=fun i c=>?ZF L c
theorem Lev.filling[?C5][?CJ](il:?wL){i:Nat}(hi:i<k):∀a,a<m->?zZ=f i*?p5 z PB L i a:=fun a ha=>by
 ext CS;have tl:=?HI
 have tq:∀x,x<z->?bL w ?mR (Q i) x=f i*PB i x:=fun x hx=>by
  have e:∀y,y<z->?KE=0:=fun y hy=>by
   have e1:?KE=Al (fun b=>P y b*?yY+-(f i)*(P y b*?jR)) z:=Ak fun b _=>?dF
   have e2:Al (fun b=>P y b*?jR) z=if y=i then 1 else 0:=by
    have:=dg.dl y i hy O9m;unfold pD at this;rw[←this];exact Ak fun c _=>by rw[qu4]
   rw[e1,C4,Bg,e2,←g8,dg.diag y i hy ?e];by_cases q:y=i
   . rw[?gE,?gE,q];omega
   . rw[?cU,?cU];omega
  have:=jS (u:=fun b=>?MV) il e x hx;show _=_;omega
 have e1:?zZ=Al (fun b=>L b a*?yY) z:=by
  have:?zZ=?a0H (fun b=>L b a*?IQ*Q i c) z:=Ak fun c hc=>by
   rw[tl a c ha hc,←En]
  rw[this,Cl]
  exact Ak fun b _=>by
   show _=L b a*Al (fun c=>?IQ*Q i c) w;ext CI
 rw[e1];show _=f i*Al (fun j=>PB i j*L j a) z;rw[←Bg];exact Ak fun b hb=>by rw[tq b hb];grind
universe e9
universe Lat
namespace Hb
open Lat
def kB(n:Nat):Nat:=?JA (?zO)+1
def QD(f:?o):?o
 | 0=>f 0
 | n+1=>max (f ?v) (QD f n)
def kP(b i:Nat):Nat:=max b (?JA (?wZ)+1)
def kS[?e4]:Nat:=?zP+6
def bookF:Nat:=27000000
def Au5[?e4]:Bool:=pN n w ?v ?o0 ?nF (kB n+n+8) (?zP) (kS n w) (kS n w+w+2) (?a0O ?o0 n) (?a0O (?zP) w) ?bY
theorem vK:(i7 41 fun n=>i7 (41-n) fun w=>Au5 n w)=true:=?t
theorem ZY:∀{i n:Nat},i<=n->?PT<=?zO:=fun {i n} h=>by
 induction n with
 | zero=>rw[?Y8 i 0];ext d9
 | succ n ih =>
   by_cases e:i=n+1
   . rw[e];ext d9
   . refine qa6 (?i9) ?_;show ?zO<=?v*DK n*?pT;exact qf5 (qm2 _ O9m) (?wX)
theorem NV[?W8][?C1](h:z+w<=40):l9 z w T (Ac4 z w (2 ^ kB z) ?bY (kS z w) T):=by
 have P:=PM (Lh (Lh vK z O9m) w O9m);refine Al9 P (fun i c hi hc=>?_) fun i hi s hs=>?_
 . refine qa6 (jM st hB b2 hi hc) ?_;rw[←qh0];exact ?wX
 . refine qa6 (nW st hB b2 i hi s hs) (qa6 (ZY hi) ?_);exact qe2 Nat.lt_log2_self
universe Hb
namespace Hb
open PySem L2
noncomputable abbrev Ms:=?wU
def nd(ms:Ms):Prop:=(?X (·.1)).Nodup
def nz(ms:Ms):Prop:=∀p∈ms,p.2≠0
def Jb(ms:Ms)(k n:Int):Ms:=if ?iI=0 then ?eU else ?iO ms k (?iI)
def F1(ms ns:Ms):Ms:=ns.foldl (fun acc p=>Jb acc p.1 p.2) ms
def Ph(n:Int)(ms:Ms):Ms:=if n=0 then [] else ?Z8 n
def Dz(ms:Ms):Ms:=ms.filter fun p=>?m (p.2≠0)
theorem M9[?u2](h:?hV=?b3):?qD∈ms:=by
 induction ms with
 | nil=>simp[lookI]at h
 | cons p ms ih =>
   rw[Dm]at h;by_cases e:?dP
   . rw[?bB]at h;have:p=?qD:=by cases p;simp_all
     rw[this];exact ?wJ
   . rw[?cY]at h;exact qb9 _ (ih h)
theorem MN[?u4](h:k ∉ ?X (·.1)):?OV:=by
 cases e:lookI ms k with
 | none=>rfl
 | some v=>exact ?W (qj4 (f:=(·.1)) ?w5) h
theorem Et[?aL]{p:?aG}(hp:p∈ms):?eD ms p.1=?c p.2:=by
 induction ms with
 | nil=>cases hp
 | cons q ms ih =>
   rw[Dm];ext j6;rcases ?vM hp with rfl | hp
   . rw[?I]
   . have:¬q.1=p.1:=fun z=>h.1 (by rw[z];exact qj4 (f:=(·.1)) hp);rw[?xW];exact ih h.2 hp
theorem F3[?u4](h:k ∉ ?X (·.1)):?T=0:=by unfold Ay;rw[MN h];rfl
theorem Ep(p:?aG)(ms:Ms)(k:Int):Ay ?pF k=if ?dP then p.2 else ?T:=by
 unfold Ay;rw[Dm];split<;>rfl
theorem fV[?n6](k:Int):?hV=if ?T=0 then none else ?c (?T):=by
 unfold Ay;cases e:lookI ms k with
 | none=>rfl
 | some v =>
   have:=h _ ?w5;show ?b3=if v=0 then none else ?b3
   rw[?xW]
theorem cY:∀(l1 l2:?F),l1.Nodup->(∀x∈l1,x∈l2)->l1.length<=l2.length
 | [],l2,_,_=>?a4
 | x::l1,l2,h,hs=>by
   rw[qg9]at h;have hx:=hs x ?f6
   have:=cY l1 (l2.erase x) h.2 fun y hy=>by
    have ne:y≠x:=fun z=>h.1 (z▸hy);exact(List.mem_erase_of_ne ne).mpr (hs y (qb9 _ hy))
   have e:=List.length_erase_of_mem hx;have:0<l2.length:=List.length_pos_of_mem hx;rw[qd4];omega
theorem OV[?jL](h1:?bA)(h2:?j0)(h:∀k,?hV=?eD ns k):?F8:=by
 have sub:∀{as bs:Ms},nd as->(∀k,?eD as k=?eD bs k)->∀x∈as.map (·.1),x∈bs.map (·.1):=fun {as bs} ha hh x hx=>by
  obtain⟨p,hp,rfl⟩:=?bZ hx;have e:=Et ha hp;rw[hh]at e;exact qj4 (f:=(·.1)) ?w5
 have l1:=cY _ _ h1 (sub h1 h);have l2:=cY _ _ h2 (sub h2 fun k=>(h k).symm);rw[qa4,qa4]at l1 l2;unfold sameC;rw[qc4];refine⟨?kY,qe5.mpr fun p hp=>qf9 ?_⟩;rw[←h];exact Et h1 hp
theorem AX[?jL](h1:?bA)(h2:?j0)(z1:?nZ)(z2:nz ns)(h:∀k,?T=Ay ns k):?F8 :=
 OV h1 h2 fun k=>by rw[fV z1,fV z2,h]
theorem UP[?aL](k:Int):nd (?eU):=by
 unfold nd Il at *;exact ?H1
theorem uM[?n6](k:Int):nz (?eU):=fun p hp=>h p ?w0
theorem X6[?u4]:?EG↔k∈?X (·.1):=by
 rw[qp5,qd6];constructor
 . ext VM
 . ext VM
theorem iJ[?aL](k v:Int):nd ?gV:=by
 unfold nd putI at *;split
 . rw[qi9]
   have e:((fun p:?aG=>p.1) ∘ fun p:?aG=>?AN)=(·.1):=by
    funext p
    simp only[Function.comp];split<;>rfl
   rw[e];exact h
 . rename_i hn
   rw[X6]at hn;rw[qb4,qs0];refine⟨h,?g9,fun a ha b hb e=>?_⟩;have:b=k:=?tD
   exact hn (by rw[←this,←e];exact ha)
theorem KI[?u2]{p:?aG}(hp:p∈?lE):p∈ms\/p=?qD:=by
 unfold putI at hp;split at hp
 . obtain⟨q,hq,e⟩:=?lB;by_cases z:q.1=k
   . rw[?b8]at e;right;rw[←e,z]
   . rw[?c9]at e;left;rw[←e];exact hq
 . ext CV
   . exact ?t9
   . exact ?k (?oH)
theorem cX(ms:Ms)(k v:Int):?XB ?lE ?DT:=by
 unfold putI;split
 . rw[qa4];omega
 . rw[qc3];simp
theorem qI(ms:Ms)(k:Int):?XB ?eU ms.length:=qj8 ..
theorem YQ[?n6]{k v:Int}(hv:v≠0):nz ?gV:=fun p hp=>by
 rcases KI hp with q | q
 . exact h p q
 . rw[q];exact hv
theorem IJ[?aL](k n:Int):nd ?mO:=by unfold Jb;split;exact UP h k;exact iJ h k _
theorem pS[?n6](k n:Int):nz ?mO:=by
 unfold Jb;split
 . exact uM h k
 . rename_i q;exact YQ h q
theorem CY(ms:Ms)(k n:Int):?XB ?vP ?DT:=by
 unfold Jb;split
 . have:=qI ms k;omega
 . exact cX ..
theorem kT(ms:Ms)(k n j:Int):Ay ?mO j=if j=k then ?kZ+n else ?kZ:=by
 unfold Jb;split
 . rename_i q
   unfold Ay at *;rw[iP];by_cases e:j=k
   . subst e;simp;omega
   . simp[e]
 . unfold Ay at *;rw[bC];by_cases e:j=k
   . subst e;simp
   . simp[e]
theorem KD:∀(ns ms:Ms),?bA->?nZ->?j0->nd ?gA/\nz ?gA/\?ID/\∀j,Ay ?gA j=?kZ+Ay ns j
 | [],ms,h1,h2,_=>⟨h1,h2,?N2,fun j=>by simp[F1,Ay,lookI]⟩
 | p::ns,ms,h1,h2,h3=>by
   unfold nd at h3;rw[qc5,qg9]at h3;obtain⟨r1,r2,r3,r4⟩:=KD ns (Jb ms p.1 p.2) (IJ h1 _ _) (pS h2 _ _) h3.2;refine⟨r1,r2,?_,fun j=>?_⟩
   . have:=?HK;ext VN
   . show Ay (?B3) j=_;rw[r4,kT,Ep];by_cases e:j=p.1
     . have:=F3 h3.1;subst e;simp[this]
     . have e':¬p.1=j:=?XG e;simp[e,e']
theorem An6[?aL]:nd ?m7:=by
 unfold nd Dz at *;exact ?H1
theorem iV[?aL](k:Int):?AK=?T:=by
 induction ms with
 | nil=>rfl
 | cons p ms ih =>
   ext j6;unfold Dz;rw[qm0,Ep];by_cases e:p.2=0
   . rw[?j ?oO];show ?AK=_;rw[ih h.2];by_cases q:?dP
     . rw[?gE,e,←q,F3 h.1]
     . rw[?cU]
   . rw[?q ?oO,Ep];show(if ?dP then p.2 else ?AK)=_;rw[ih h.2]
def SQ(ms:Ms):Prop:=∀p∈ms,?mZ/\p.1<40
theorem iH[?aL](n:Int):nd (?Z8 n):=by
 unfold nd at *;rw[qi9];exact h
theorem fW:∀(ns ms:Ms),?ID
 | [],ms=>?N2
 | p::ns,ms=>by
   have h1:=fW ns (Jb ms p.1 p.2);have h2:=?HK;ext VN
theorem ME[?jL]{i:Nat}[?jF](h:ns[i]?=?gD):F1 ms ?pD=Jb (F1 ms (ns.take i)) q.1 q.2:=by
 unfold F1;rw[qo7,h,qs1];rfl
theorem oQ[?aL]{i:Nat}[?jF](hq:ms[i]?=?gD):q.1 ∉ (ms.take i).map (·.1):=by
 intro hm;obtain⟨p,hp,e⟩:=?pN;obtain⟨j,hj,ej⟩:=List.mem_take_iff_getElem.mp hp;have hij:j<i:=O9m
 have hi:?M2:=?PZ;unfold nd List.Nodup at h;rw[qr9,qr4]at h;have:=h j i O9m hi hij;rw[?h3]at hq;have hq':=qd7 hq;exact ?V (by rw[ej,hq',e])
theorem bO{ms:Ms}{i:Nat}[?jF](hq:ms[i]?=?gD):Dz (ms.take ?x)=if q.2=0 then Dz (ms.take i) else Dz (ms.take i)++[q]:=by
 unfold Dz;rw[qo7,hq,qo5];by_cases e:q.2=0<;>simp[e]
theorem vH[?u4](h:k ∉ ?X (·.1)):k ∉ (Dz ms).map (·.1):=fun hm=>by
 obtain⟨p,hp,e⟩:=?pN;exact h (?rS ⟨p,?w0,e⟩)
theorem kJ(ms:Ms):(Dz ms).length<=ms.length:=qj8 ..
section
variable{H H1:Hp}{a:Addr}[?u2]
theorem Q6(rd:?sG):DGet H a (?bD) ((?hV).map ?a3):=?g ⟨?cQ,?pW,rd,rfl,(jK ms k).symm⟩
theorem Ou(rd:?sG)(h:?hV=?b3):DGet H a (?bD) (?c (?nX)):=?g ⟨?cQ,?pW,rd,rfl,by rw[jK,h];rfl⟩
theorem Uj(h:H a=?oW)(hl:?P8):Ac8 H a (?bD) (?nX) (upd H a (.dK (cK ?gV))):=by
 rw[←Aa8];exact ?g ⟨?cQ,?pW,h,rfl,by unfold cK;rw[qa4];exact ?fO hl,rfl⟩
theorem Le{i:Nat}{kk:Key}{x:V}(h:(?cQ)[i]?=?c (kk,x)):∃p:?aG,ms[i]?=?mH/\kk=?g p.1/\x=?d p.2:=by
 unfold cK at h;rw[qa9]at h;cases e:ms[i]? with
 | none=>rw[e]at h;cases h
 | some p =>
   rw[e]at h;have:=qd7 h;simp only[Prod.mk.injEq]at this;exact⟨p,rfl,this.1.symm,this.2.symm⟩
theorem Ka:?YZ ?cQ ms.length:=by unfold cK;rw[qa4]
theorem xX{o:HO}(h:H a=?b4):upd H a o=H:=by
 funext b
 by_cases e:b=a
 . rw[e,Ab,h]
 . rw[Ai e]
theorem GC{x:HO}[?dA](h:(upd H a x) D=none):?aX/\D≠a:=by
 have n:D≠a:=fun z=>by rw[z,Ab]at h;cases h
 rw[Ai n]at h;exact⟨h,n⟩
theorem tS{o:HO}{b:Addr}(s:?iR)(h:Rd H b o):Rd H1 b o:=by
 rcases h with h|⟨q,h⟩
 . exact ?g (?a00 h)
 . exact ?k ⟨q,?a00 h⟩
universe e9
theorem put_new[?u2](h:k ∉ ?X (·.1)):?lE=ms++[?qD]:=by
 unfold putI;rw[?j (?a21 h (X6.mp z))]
def mK(H:Hp)(ms:Ms)(Q:V->?a5):Prop:=∀[?jE],?aX->?J->?dN=?oW->?bQ
section
variable[?i]
def Qy[?b6]:Sp:=fun vs H Q _=>Th fun ?dR ?cZ (k n:Int)=>B4 (?Z0 ?eC) ?m4 (?P8) (Q ?eJ (upd H a (.dK (cK ?mO))))
def jZ[?b6]:Sp:=fun vs H Q _=>Th fun ?cM ?R0=>Hq ?lA (?sG) (?a1S b ns) ?hD (ns.length<=1000) (mK H ?gA Q)
def EO[?b6]:Sp:=fun vs H Q _=>Nv fun ?cO ?dR ?cZ=>D6 (vs=[?eC,?y]) ?m4 ?hD ((∀p∈ms,?cA n p.2)) (mK H (Ph n ms) Q)
universe e9
universe Hb
namespace Hb
universe Hb
namespace Hb
open PySem L2
theorem Jp[?e5]{l:?dQ}{i:Nat}{d:α}:l.getD i d∈l\/l.getD i d=d:=by
 rw[qa3];by_cases h:?Q7
 . rw[qa0 h];exact ?g (qe0 h)
 . rw[qh9 ?e];exact ?k rfl
theorem AW{xs:Aq}(h:?dZ):?q1:=fun x hx=>by
 obtain⟨k,hk⟩:=qg0 hx;have:=(h k x hk).cnt;omega
section
variable[?L]{H:Hp}
universe e9
section
variable[?i]
universe e9
universe Hb
namespace L2
open PySem PySem.Spec PyProof.Rows
open AutoSeq1 (wpAny_loadPart')
theorem nF(t:Addr)(vs:?z9)(n:Nat)(dd:OAddr)(sl:R7):Meets (Builtin.«enumerate.__new__» ⟨[?pB,?hX],[]⟩) (fun _ R s=>?RK t=?c { cls:=?i1,dict:=dd,data:=?R4,slots:=sl } ∧
 R (.ok (.ret (?f ?G5))) { s with heap:=(?rY).push ?xS }) :=
 .of_wp fun prog w A R s h=>by
  obtain⟨hp,g,d,tk,os⟩:=s;obtain⟨q1,q2⟩:=h;have hsub:=sub_enumerate;have gt:Heap.IsTuple (Shared.heap ⟨hp,g,d,tk,os⟩) t vs:=⟨_,q1,rfl,n,rfl⟩
  wp_walk using wpAny_loadPart' q1
  refine wpAny_stack_any fun st=>?qB;split
  . rename_i c _ _ _ _ _
    cases (c==Value.type ?eI)
    . ext CE
      exact ?vF
    . ext CE
      exact ?vF
  . ext CE
    exact ?vF
section
variable[?CQ]{E:?qQ}{s:Shared}
theorem IZ[?CL]{x old:Value}{Q:?qQ}[?C4](gx:vs[n]?=?c x)(ne:e≠j)
 (k:∀h',?TX->?JP->?XO x->?DA →
   ?ZS (?qM)) :
 ?bJ ?tK A (Builtin.«enumerate.__next__» ⟨[?f e],[]⟩) (fun fin s'=>∃r,fin=.done (.ret r)/\Q r s') E s:=by
 obtain⟨hp,g,d,tk,os⟩:=s;ext V3;refine qa5 (J3 gj gt gx fun k1 gj1 w1=>?_)
 replace w1:?fM j hp k1:=w1
 have ge1:?ZH k1 n:=(w1.2 e ne).trans ge;show ?XS 3 ?v4;refine qa5 (qh3 ge1 rfl (x:=?vS n) rfl ?_);show ?XS 4 ?v4;refine qa5 (qh3 ge1 rfl (x:=?bU) rfl ?_);show ?bJ _ _ (mkInt n>>=_) _ _ ?v4;refine qa5 (wpAny_mkInt ?_);show ?bJ _ _ (?SB ?dX 3 (?vS ?cT)>>=_) _ _ ⟨k1,g,d,tk+1,os⟩;refine qa5 (qi3 ge1 ?aQ fun k2 ge2 w2=>?_)
 replace w2:?fM e k1 k2:=w2
 replace ge2:?ZH k2 ?cT:=ge2
 show ?WW (?SB ?dX 4 ?bU>>=_) k2;refine qa5 (qi3 ge2 ?aQ fun k3 ge3 w3=>?_)
 replace w3:?fM e k2 k3:=w3
 replace ge3:?ZH k3 ?cT:=ge3
 show ?WW (newTuple [?E9,x]>>=_) k3;refine qa5 (wpAny_newTuple ?_);have ge4:?ZH (?QP) ?cT:=qa7 _ ge3;generalize vA:?QP=k4 at ge4;have sz:k3.objs.size=hp.objs.size:=by rw[w3.1,w2.1,w1.1]
 have le:e<hp.objs.size:=qb2 ge;have gt4:k4.get? ?rE=?c ?IR:=by rw[←vA,←sz];exact ?AW
 have sz4:k4.objs.size=hp.objs.size+1:=by rw[←vA,qi5,sz]
 have kp4:∀b o,?mC->b≠j->hp.get? b=?b4->k4.get? b=?b4:=fun b o n1 n2 q=>by
  rw[←vA];exact qa7 _ (?TA b o n1 (?KG b o n1 (w1.extBut b o n2 q)))
 have gj4:k4.IsTupleIter j t ?v:=by
  rw[←vA];obtain⟨o,q,r⟩:=(gj1.extBut ?KG ?mN).extBut ?TA ?mN;exact⟨o,qa7 _ q,r⟩
 show ?WW (Builtin.SmallTypes.ownedTupleIsFree ?dX>>=_) k4;rw[sz];clear vA ge3 w3 ge2 w2 ge1 w1 gj1 sz k3 k2 k1;refine qa5 ?_;unfold Builtin.SmallTypes.ownedTupleIsFree;refine qa5 (qh3 ge4 rfl (x:=?bU) rfl (?qB));simp only[if_true];refine qa5 (qw3 ?_);refine qa5 (qh3 ge4 rfl (x:=old) rfl ?_);refine qa5 (qi3 ge4 ?aQ fun k5 ge5 w5=>?_)
 replace w5:?fM e k4 k5:=w5
 replace ge5:?dY k5 e j ?cT x:=ge5
 show ?WW (Builtin.SmallTypes.ownedTupleHandOut ?dX (?f ?rE)>>=_) k5;refine qa5 ?_;unfold Builtin.SmallTypes.ownedTupleHandOut;refine qa5 (qi3 ge5 ?aQ fun k6 ge6 w6=>?_)
 replace w6:?fM e k5 k6:=w6
 replace ge6:?A0 k6 e j ?cT x ?rE:=ge6
 refine qi3 ge6 ?aQ fun k7 ge7 w7=>?_
 replace w7:?fM e k6 k7:=w7
 replace ge7:?A0 k7 e j ?cT x ?rE:=ge7
 refine qa5 (wpAny_letGo (qb7 ⟨_,rfl,k k7 ge7 ?_ ?_ ?_ ?_⟩))
 . exact((gj4.extBut ?zU ?mN).extBut ?yM ?mN).extBut ?AE ?mN
 . exact ?AE _ _ (qk6 le) (?yM _ _ (qk6 le) (?zU _ _ (qk6 le) gt4))
 . rw[w7.1,w6.1,w5.1,sz4]
 . exact fun b o n1 n2 q=>?AE b o n1 (?yM b o n1 (?zU b o n1 (kp4 b o n1 n2 q)))
theorem Xi[?CL]{x old:Value}[?WB][?C4](gx:vs[n]?=?c x)(ne:e≠j)
 (k:∀h',?TX->?JP->?XO x->?DA →
   ?ZS (?c (?qM))):?G1:=by
 ext VJ
 unfold pyNext;exact qa5 (?WQ (IZ ge gj gt gx ne fun h' a b c d q=>qb7 (k h' a b c d q)))
theorem Zk[?CL]{old:Value}[?WB](hn:A.handled=none)[?C4](gx:vs[n]?=none)
 (k:∀h',Heap.ExtBut j ?dC h'->Q ?H ?LB):?G1:=by
 ext VJ
 unfold pyNext;refine qa5 (?WQ ?_);ext V3;refine qa5 (Qd hn gj gt gx fun h' x he hx=>?_);obtain⟨o,q1,q2⟩:=hx;exact qa5 (?TZ (T:="StopIteration") (b:=true) ⟨o,q1,q2⟩ isSubtype_stop (qb7 (k _ he)))
theorem JJ{t:Addr}{vs:?z9}{Q:?qQ}(gt:?PU)
 (k:∀h',?dY h' (?lF) ?b7 0 ?bU->?N9 ?b7 t 0->h'.objs.size=s.heap.objs.size+2->(∀b o,?xQ)->Q (?f (?lF)) ?LB) :
 ?bJ ?tK A (call (?pB) [?hX]) Q E s:=by
 obtain⟨⟨c,dd,dt,sl⟩,q,qc,n,qd⟩:=gt
 replace qc:c=?i1:=qc
 replace qd:dt=?R4:=qd
 subst qc qd;refine callType_new F.called_enumerate ?bW (F.typeCall_enumerate_1 _) (F.newCall_enumerate_1 _) (fun obj=>F.args_object_init_2 obj _) F.entry_enumerate_new (nF t vs n dd sl) ⟨q,?_⟩;have z1:?G5=?lF:=qi5 ..;show _/\_;rw[z1]
 have ge:?dY ((?rY).push ?xS) (?lF) ?b7 0 ?bU:=by
  have:=qc1 (?rY) (o:=?xS) rfl;rw[z1]at this;ext bN
 exact⟨?E4,k _ ge ⟨_,qa7 _ (?AW),rfl,rfl⟩ (by rw[qi5,z1]) fun b o x=>qa7 _ (qa7 _ x)⟩
universe e9
def IteT[?i](a:Addr):It :=
 ⟨fun i H=>∃xs x,?fW/\?pA=?c x,fun i H x H'=>∃p v,?U0/\x=?a8/\H'=?a0B p v/\∀xs,?fW->?pA=?b3,fun i H=>∃xs,?fW/\?ZM i⟩
theorem HG[?n4][?L][?W9](a e it:Addr)(hne:e≠it):Wf P w K (.Tuple es x1 tpos) (?mW) ?wG e (fun i h=>(∃old,?dY h e it ?cD old)/\h.IsTupleIter it a i) where
 mem:=?g9
 obj:=fun i h st b hb=>by
  obtain⟨⟨old,h1⟩,o,h2,c,d⟩:=st;ext tS
  . exact⟨_,h1,fun v z=>by cases (show Data.fields _=Data.cell v from z)⟩
  . ext CO
    subst z;exact⟨o,h2,fun v z=>by rw[d]at z;cases z⟩
 keep:=fun i h h' st k=>by
  obtain⟨⟨old,h1⟩,h2⟩:=st;exact⟨⟨old,k e ?aQ _ h1⟩,h2.at fun o z=>k it ?aQ o z⟩
 item:=by
  ext V0;obtain⟨xs,x,hq,hx⟩:=hg;ext CG;obtain⟨u,hu,ru⟩:=rv.get hx;have fe:=hf e ?aQ;have fi:=?EY;have lte:e<s.heap.objs.size:=qb2 h1;have hfresh:H ?b7=none:=I.hok.fresh ?r;refine Xi h1 h2 (?Z2 a) (x:=u) (by simpa using hu) hne fun h' hout mU htup hsz hk=>?_;refine⟨_,rfl,wpAny_letOwnedTupleGo_enum hout fun h3 hen Pa=>?_⟩
  replace Pa:?fM e h' h3:=Pa
  have kk:∀b o,?mC->b≠it->?FW->h3.get? b=?b4:=fun b o n1 n2 z=>(Pa.2 b n1).trans (hk b o n1 n2 z);have UY:h3.get? ?b7=?c { cls:=?i1,data:=.seq #[?T8,u] }:=(Pa.2 _ (qk6 lte)).trans htup;have hi3:h3.IsTupleIter it a ?x:=mU.at fun o z=>(Pa.2 it hne.symm).trans z;have cQ:∀b,b ∉ ?wG->?P5:=fun b hb=>?tD
  have z9:∀b v,H b=?b3->?P5:=fun b v z=>⟨Ao z fe.1,Ao z fi.1⟩
  have T8:∀b v,H b=?b3->b≠s.heap.objs.size:=fun b v z=>Ao z hfresh;refine⟨?qM,?TD,?_,rfl,⟨?b7,x,hfresh,rfl,rfl,fun ys hy=>by rw[I.tuple_inj hy hq];exact hx⟩,⟨?TH,hi3⟩,?gZ⟩
  . refine Bo.step (s:=s) (h':=h3) (t':=?P7) (H':=?TD) I (g':=s.gens) (d':=s.drawn) (ch:=?wG) (?gZ) (fun b o _ _ hb z _=>?AH) (fun b o _ _ hb z _=>⟨o.slots,?AH⟩) (fun b o hb z n=>?_) (fun b o hb z=>⟨o,?AH⟩)
     (fun b ys z=>?HG) (fun b o v z=>?HG) (fun b ps z=>⟨#[],by rw[Ai (T8 b _ z),z];simp⟩) (?vN) (fun b v z=>?_) I.bare
    . ext tS
      . exact⟨fe.2.2.2.1,fe.2.1,fe.2.2.2.2.1,fe.2.2.2.2.2⟩
      . ext CO
        subst z;exact⟨fi.2.2.2.1,fi.2.1,fi.2.2.2.2.1,fi.2.2.2.2.2⟩
    . rw[Ai (qd1 (qb2 z))];exact n
    . obtain⟨o,es',ep,ho,r⟩:=hm;exact⟨o,es',ep,kk _ o fe.2.1.symm fi.2.1.symm ho,r⟩
    . by_cases hb:b=s.heap.objs.size
      . subst hb;rw[Ab]at z;cases z;exact⟨(by show(2:Nat)<=sizeLine;decide),[?T8,u],.cons ?hI (.cons ru .nil),⟨_,UY,rfl,rfl,_,rfl⟩⟩
      . rw[Ai hb]at z;refine(I.hok b v z).stay (fun c y hc' q=>?_) (fun c q=>?SS) fun c ys q=>?SS
        rcases hc' with rfl | hc'
        . exact kk _ _ (?J7).1 (?J7).2 q
        . exact kk _ _ (?JB).1 (?JB).2 q
  . have lb:b<s.heap.objs.size:=by
     ext tS
     . exact lte
     . ext CO
       subst z;obtain⟨o,z,_⟩:=h2;exact qb2 z
    rw[Ai (qd1 lb)];exact(hf b hb).1
 done:=by
  ext V0;obtain⟨xs,hq,hx⟩:=hg;ext CG;obtain⟨f0,f1,f2,f3,f4,f5⟩:=?EY;have hl:=rv.length;exact Zk (?JD) h1 h2 (?Z2 a) (?kY) fun h' eb=>⟨rfl,I.turned (t':=s.toks) (fun b o hb z=>eb b o hb z) f0 f1 f3 f4 f5⟩
 self:=fun _ _ _ _ _ st h=>by
  obtain⟨⟨old,h1⟩,h2⟩:=st;exact qu0 h1 h
inductive LM[?i](R:It->?a5)[?jI](H1:Hp):Prop
 | mk:∀a,?pZ->((∃xs,?DX))->(R (?mW) H1)->?EA
def ZJ[?i](ta:TA):TI:=fun σ H R=>ta σ H fun vs H1=>?EA
theorem Wc:?GR ?eI=?c (?pB):=?t
theorem pH{X:Cx}[?L][?W9]{a:Expr}{ta:TA}{p pos:Pos}(hg:Gl X ?eI)(hm:X.mg ?eI=none)(ha:PA X [a] ta)(hK:X.K=K:=by rfl)(hs:starEach [a] X.env=[(?qX,eval a X.env)]:=by rfl):PI X (.Tuple es x1 tpos) (.Call (.Name ?eI p) [a] [] pos) (ZJ K ta):=by
 subst hK;intro Ad s σ H R I h;refine Call_ (Mg I hg hm Wc (qg8 (Dq (ha pos Ad s σ H _ I h) fun us s1 _z=>?_) hs rfl));obtain⟨vs,H1,I1,r1,q1⟩:=_z;obtain⟨l,e,⟨xs,hq⟩,q⟩:=q1;subst e;cases r1 with
 | cons r rr =>
   cases rr;cases r;obtain⟨its,rv,pl,hz⟩:=I1.tuple hq;refine JJ (show s1.heap.IsTuple l ?k7 from pl) fun h' hen hit hsz hk=>?_;refine qu0 hen ⟨?K2,[?K2,s1.heap.objs.size],_,_,H1,rfl,I1.kept (t':=s1.toks) hk,HG l _ _ (qt5 _),⟨?TH,hit⟩,?gZ,q⟩
   have lb:s1.heap.objs.size<=b:=by
    ext tS
    . exact qn6 _
    . have z:b=s1.heap.objs.size:=?tD
      rw[z];ext d9
   exact I1.fpOk lb (I1.hok.fresh lb)
section
variable{g:TG}{tc:TT}{te:TE}[?dA]{Q:?a5}{τ:St}{H:Hp}
theorem nA[?L][?jA]{g:TG}{tb:TS}{D:Ends}{σ:St}{H:Hp}(Pv:?jN)(h0:Pv 0 σ H)(hl:∀i σ H,?FS->?uY->?fW)
 (hs:∀i x σ H p,?pA=?c x->?uY->?U0->g (?a8) σ (?a0B p x) fun σ2 H2=>tb { D with nx:=?x4,ct:=?x4,bk:=D.nx } σ2 H2) (hd:∀σ H,Pv ?cK σ H->?DB) :
 ∃W:Nat->?jN,(∃m,W 0 m σ H)/\∀i m σ H,W i m σ H →
   ((?mW).stop i H/\?DB)\/((?mW).go i H/\∃N:?t8,(∀σ' H',N σ' H'->∃m',m'<m/\W ?x m' σ' H')/\∀x H',(?mW).yld i H x H'->g x σ H' fun σ2 H2=>tb { D with nx:=N,ct:=N,bk:=D.nx } σ2 H2):=by
 refine⟨fun i m σ H=>m=xs.length-i/\?FS/\?uY,⟨?cK,?g9,?a4,h0⟩,?_⟩;rintro i m σ H ⟨rfl,hi,pp⟩;have q:=hl i σ H hi pp;by_cases hlt:?OK
 . refine ?k ⟨⟨xs,xs[i],q,by simp[hlt]⟩,?x4,fun σ' H' p'=>⟨xs.length-?x,O9m,rfl,hlt,p'⟩,fun x H' y=>?_⟩;obtain⟨p,v,hp,rfl,rfl,y⟩:=y;exact hs i v σ _ p (y xs q) pp hp
 . have e:i=xs.length:=O9m
   subst e;exact ?g ⟨⟨xs,q,?aS⟩,hd σ H pp⟩
universe e9
universe L2
namespace Hb
def F2[?n8](f:Int):?n
 | 0=>0
 | i+1=>if ?f3=f then ?IK+1-?hG else ?IK
def Rb[?n8](f:Int):Int:=F2 fs f ?t1
def ZH(x e:Int):Int:=if x=e then 1 else 0
theorem UK(e:Int):Rb [] e=0:=rfl
theorem KG(x y e:Int):?zI=?P1:=by
 show(if y=e then(if x=e then ?dT+1-2*((?oN:Int)%2) else 0)+1-2*(((1:Nat):Int)%2) else(if x=e then ?dT+1-2*((?oN:Int)%2) else 0))=_;unfold ZH;split<;>split<;>simp_all
theorem kG(x y z e:Int):Rb [x,y,z] e=?P1+ZH z e:=by
 show(if z=e then ?zI+1-2*(((2:Nat):Int)%2) else ?zI)=_;rw[KG];unfold ZH;split<;>simp_all<;>omega
theorem UU[?nA](h:l.length=2):∃a b,l=[a,b]:=by
 match l,h with
 | [a,b],_=>exact⟨a,b,rfl⟩
theorem QI[?nA](h:l.length=3):∃a b c,l=[a,b,c]:=by
 match l,h with
 | [a,b,c],_=>exact⟨a,b,c,rfl⟩
theorem A92[?nA](h:l.length=4):∃a b c d,l=?MX:=by
 match l,h with
 | ?MX,_=>exact⟨a,b,c,d,rfl⟩
def sg(i:Nat):Int:=1-?hG
theorem Ai6[?cE]{k:Nat}{q:?F}(hq:xs[k]?=?gD)(e:Int):Al (fun i=>sg i*Rb (?B (q.getD i 0).toNat []) e) q.length=0:=by
 have F:=hs k q hq
 have face:∀f∈q,∃p,?vA=p/\(xs.take k)[f.toNat]?=?mH/\lev p+1=lev q/\(p.length=0\/p.length=2\/p.length=3\/p.length=4):=by
  intro f hf;obtain⟨p,hp,hl⟩:=F.bel f hf
  have hp2:?wD=?mH:=by
   rw[qk8]at hp;split at hp
   . exact hp
   . cases hp
  exact⟨p,by rw[qa3,hp2];rfl,hp,hl,(hs _ _ hp2).cnt⟩
 rcases F.cnt with h | h | h | h
 . rw[h];rfl
 . obtain⟨a,b,rfl⟩:=UU h;obtain⟨A,ha,_,la,ca⟩:=?UK;obtain⟨B,hb,_,lb,cb⟩:=?HD;have za:A=[]:=by ext CW;apply List.eq_nil_of_length_eq_zero;omega
   have zb:B=[]:=by ext CX;apply List.eq_nil_of_length_eq_zero;omega
   subst za zb;show ?WN 1=0;rw[ha,hb,UK];simp
 . obtain⟨a,b,c,rfl⟩:=QI h;ext UV;obtain⟨a0,a1,rfl⟩:=UU (l:=A) (by ext CW;omega);obtain⟨b0,b1,rfl⟩:=UU (l:=B) (by ext CX;omega);obtain⟨c0,c1,rfl⟩:=?XZ UU;ext US;simp at e1 e2 e3;subst e1 e2 e3;show ?a1O e=0;rw[ha,hb,hc,KG,KG,KG];simp[sg];omega
 . obtain⟨a,b,c,d,rfl⟩:=A92 h;ext UV;obtain⟨D,hd,gd,ld,cd⟩:=?aR d ?aQ;obtain⟨a0,a1,a2,rfl⟩:=QI (l:=A) (by ext CW;omega);obtain⟨b0,b1,b2,rfl⟩:=QI (l:=B) (by ext CX;omega);obtain⟨c0,c1,c2,rfl⟩:=?XZ QI;obtain⟨d0,d1,d2,rfl⟩:=QI (l:=D) (by unfold lev at ld;simp at ld;omega);ext US;have e4:=G 0 3 d a _ _ ?bW rfl rfl gd ga;have e5:=G 1 3 d b _ _ ?bW rfl rfl gd gb;have e6:=G 2 3 d c _ _ ?bW rfl rfl gd gc;simp at e1 e2 e3 e4 e5 e6;subst e1 e2 e3 e4 e5 e6;show ?a1O e+sg 3*Rb (?Y5 d.toNat) e=0;rw[ha,hb,hc,hd,kG,kG,kG,kG];simp[sg];omega
universe Hb
namespace Hb
open PySem L2
def Xv(n:Int)(i:Nat):Int:=if ?t0=0 then n else -n
def Ho(ms:Ms)[?d5]:?kW
 | 0=>ms
 | i+1=>?A6
def jO(ms:Ms)[?d5]:Ms:=Ho ms fs n ?t1
theorem BJ(ms:Ms)[?n8](n k:Int):∀i,Ay ?fS k=?T+?iY*n
 | 0=>by simp[Ho,F2]
 | i+1=>by
   show Ay (?A6) k=_;rw[kT,BJ ms fs n k i];show _=?T+(if ?f3=k then ?FO else ?iY)*n;by_cases h:k=?f3
   . rw[?b2,?y0]
     have e:?gP=(1-?hG)*n:=by
      unfold Xv;have:?JQ:=O9m
      rcases this with z | z
      . rw[?b8,z];simp
      . ext CT
     rw[e,show ?FO=?iY+(1-?hG) by omega,qt3];omega
   . rw[?aA,?TE]
theorem Zl[?aL][?d5]:∀i,nd ?fS
 | 0=>h
 | i+1=>IJ (Zl h fs n i) _ _
theorem fO[?n6][?d5]:∀i,nz ?fS
 | 0=>h
 | i+1=>pS (fO h fs n i) _ _
theorem Vs(ms:Ms)[?d5]:∀i,?XB ?nN ?K1
 | 0=>?aS
 | i+1=>by
   have h1:=Vs ms fs n i;have h2:=CY ?fS ?lI (?gP);show(Jb _ _ _).length<=_;omega
theorem kF[?jG]{k:Int}:∀{i},(?hS i).any (?YP ?m (?f3=k))=false->?iY=0
 | 0,_=>rfl
 | i+1,h=>by
   rw[qj7,List.any_append,ql8,List.any_nil,Bool.or_false,Bool.or_eq_false_iff]at h;show(if ?f3=k then _ else ?iY)=0;rw[?j (of_decide_eq_false h.2)];exact kF h.1
def M8(xs:Aq)(k p n:Int):Bool:=Dr xs (?mM) k&&?m (¬n=0)
def Ov[?aV](ms:Ms):Bool:=ms.all fun p=>M8 xs k p.1 p.2
def Lg[?d6]:?kW
 | 0=>[]
 | i+1=>jO ?eY ?sM ?oI
def Dh[?d6]:Ms:=Lg xs ms ?k3
theorem bD[?j7](ms:Ms):∀i,(?nD).length<=4*i
 | 0=>?aS
 | i+1=>by
   have h1:=bD h4 ms i;show(jO _ _ _).length<=_;unfold jO;have h2:=Vs ?eY ?sM ?oI ?k4
   have h3:?k4<=4:=by
    rcases Jp (l:=xs) (i:=?JK) (d:=[]) with z | z
    . exact h4 _ z
    . rw[z];exact ?a4
   omega
theorem fD{xs:Aq}{p l:Int}(h:Dr xs (?mM) l=true):?UC:=by
 have h':(?m (?gY)&&?m (?gN)&&?m (?l8=l))=true:=h;rw[qc4,qc4]at h';exact⟨qd2 h'.1.1,qd2 h'.1.2⟩
def Np(b:Addr)(H H1:Hp):Prop:=∀c q,c≠b->?LA
section
variable[?L]{H H1:Hp}{b:Addr}{m:?U (Key × V)}
theorem SqL.x[?tQ][?jA](h:?NA):SqL K H1 a xs:=by
 ext tR
 . ext VF
 . ext V8
 . exact ?eP
theorem Ed.x[?tQ][?jA](h:?fW):?DX:=by
 ext tR
 . ext VF
 . ext V8
 . exact ?eP
mutual
theorem Rep.x[?tQ]{v:V}{d:L2.D}(h:?a23 v d):Rep K H1 v d:=by
 cases d with
 | non=>exact h
 | bl b=>exact h
 | int i=>exact h
 | str x=>exact h
 | tup ds =>
   obtain⟨a,vs,e,q,r⟩:=h;exact⟨a,vs,e,Ed.x s hb q,?H4⟩
 | lst ds =>
   obtain⟨a,vs,e,q,r⟩:=h;exact⟨a,vs,e,SqL.x s hb q,?H4⟩
theorem Reps.x[?tQ][?d8]{ds:?U L2.D}(h:Reps K H vs ds):Reps K H1 vs ds:=by
 cases ds with
 | nil=>exact h
 | cons d r =>
   obtain⟨v,q,e,h1,h2⟩:=h;exact⟨v,q,e,Rep.x s hb h1,Reps.x s hb h2⟩
end
universe e9
section
variable[?i]
def Yj:Sp:=fun vs H Q _=>Xr fun ?dR ?a0 (k p n:Int)=>E5 (vs=[?y,?bD,?mM,?eC]) ?aY (Q (.bl (M8 xs k p n)) H)
def Wn:Sp:=fun vs H Q _=>Xr fun ?cM ?a0 ?Z ?cZ=>D6 (?Z0 ?bH) ?aY ?mV ?hD (?XV (.bl (Ov xs k ms)))
def Ge:Sp:=fun vs H Q _=>Xr fun ?cM ?a0 (n:Nat) ?cZ=>Hq (vs=[?y,?bH,?d ?cO]) ?aY ?mV ?hD (n<=100) (?XV (.bl ((?sJ).any fun(k:Nat)=>?QL)))
def Tp:Sp:=fun vs H Q _=>Xr fun ?dR ?eL ?cZ (fs:?F) ?cO=>D6 (vs=[?y,v,?eC]) ?m4 (TI K H v fs) (?a1V fs.length<=100000) (∀H',Np a H H'->H' a=?WL (jO ms fs n)->?aU)
def aS:Sp:=fun vs H Q _=>Th fun ?cM ?a0 ?cZ=>Lk ?lA ?aY ?mV ?hD ?oD ((∃k:Nat,k<4/\?QL=true)) (mK H ?gI Q)
universe e9
universe Hb
namespace Hb
open PySem L2
def wF[?G](ms:Ms):Int:=(?X fun p=>p.2*?gS).sum
theorem U2[?G]:?WV []=0:=rfl
theorem E6[?G](p:?aG)(ms:Ms):?WV ?pF=p.2*?gS+?a6:=by
 unfold wF;rw[qc5,ql7]
theorem Nh(k:Int):?sZ=0:=rfl
theorem JU[?G](k:Int):∀{ms:Ms},?bA->?WV (?eU)=?a6-?T*φ k
 | [],_=>by show ?dT=0-?sZ*φ k;rw[Nh];simp
 | ?fY,h=>by
   ext j6;have ih:=JU φ k (ms:=ms) h.2;rw[Ep,E6];by_cases e:?dP
   . rw[?bB];have hd:?RJ=?eU:=by unfold Il;rw[qt1 ?oO]
     have hg:?T=0:=F3 (by rw[←e];exact h.1);rw[hd,ih,hg,←e,qg3];omega
   . rw[?cY];have hd:?RJ=p::?eU:=by unfold Il;rw[qt0 ?oO]
     rw[hd,E6,ih];omega
theorem Qv[?G](as bs:Ms):?WV (as++bs)=?WV as+?WV bs:=by
 unfold wF;rw[qb4,List.sum_append]
theorem OM[?G](k v:Int):∀{ms:Ms},?bA->k∈?X (·.1)->?WV (?X fun p=>?AN)=?a6+(v-?T)*φ k
 | [],_,h=>by simp at h
 | ?fY,h,hk=>by
   ext j6;rw[qc5,E6,E6,Ep];by_cases e:?dP
   . rw[?bB,?bB]
     have same:(?X fun p=>?AN)=ms:=by
      conv=>rhs;rw[←?O1 ms]
      apply qq1;intro q hq;have:¬q.1=k:=fun z=>h.1 (by rw[e,←z];exact qj4 (f:=(·.1)) hq);rw[?xW];rfl
     rw[same,e,Int.sub_mul];show v*φ k+?a6=_;omega
   . rw[?cY,?cY]
     have hk2:k∈?X (·.1):=by
      rw[qc5,qc0]at hk;rcases hk with z | z
      . exact ?W ?bK e
      . exact z
     rw[OM φ k v h.2 hk2];omega
theorem oM[?G][?aL](k v:Int):?WV ?gV=?a6+(v-?T)*φ k:=by
 by_cases hk:k∈?X (·.1)
 . unfold putI;rw[?q (X6.mpr hk),OM φ k v h hk]
 . rw[put_new hk,Qv,F3 hk,E6,U2];simp
theorem oN[?G][?aL](k n:Int):?WV ?mO=?a6+n*φ k:=by
 unfold Jb;split
 . rename_i e
   rw[JU φ k h];have:?T=-n:=O9m
   rw[this,qn8];omega
 . rw[oM φ h,show ?iI-?T=n by omega]
theorem EK[?G][?aL][?d5]:∀i,?WV ?fS=?a6+n*Al (fun j=>?QB) i
 | 0=>by show ?H3;simp
 | i+1=>by
   show ?WV (?A6)=?a6+n*(?wI+?S5);rw[oN φ (Zl h fs n i),EK φ h fs n i,Int.mul_add]
   have e:?gP=n*sg i:=by
    unfold Xv sg;have:?JQ:=O9m
    rcases this with z | z
    . rw[?b8,z];simp
    . ext CT
   rw[e,qf2];omega
theorem Qe[?d6]:∀i,nd ?eY
 | 0=>qr5
 | i+1=>?a12 Zl Qe
theorem Zi[?d6]:∀i,nz ?eY
 | 0=>?OS
 | i+1=>?a12 fO Zi
def face(xs:Aq)[?G](p:Int):Int:=Al (fun j=>?dD*φ ((?d1).getD j 0)) ?oZ
theorem eK[?G][?d6]:∀i,?wH->?WV ?eY=wF (?aR xs φ) (ms.take i)
 | 0,_=>rfl
 | i+1,h=>by
   show ?WV (jO ?eY _ _)=_;unfold jO;rw[EK φ (Qe xs ms i),eK φ xs ms i ?e,qo7,?h8,Qv];ext C6
   rw[e];show _+_=_+wF _ [?sN];rw[E6,U2];unfold face;omega
theorem jV[?G][?d6]:?WV ?gI=wF (?aR xs φ) ms:=by
 unfold Dh;rw[eK φ xs ms _ ?r,qd0]
def KW(e k:Int):Int:=if k=e then 1 else 0
theorem AN(e:Int):∀{ms:Ms},?bA->wF ?vQ ms=Ay ms e
 | [],_=>rfl
 | ?fY,h=>by
   ext j6;rw[E6,Ep,AN e h.2];unfold KW;by_cases z:p.1=e
   . rw[?b8,?b8,F3 (by rw[←z];exact h.1)];omega
   . rw[?c9,?c9];omega
theorem kW(xs:Aq)(e p:Int):?a1T ?vQ=?iS:=by
 have:∀[?n8] (i:Nat),Al (fun j=>?dD*KW e ?mP) i=?bV:=by
  intro fs i
  induction i with
  | zero=>rfl
  | succ i ih =>
    show ?wI+sg i*KW e ?lI=?U6
    rw[ih];unfold KW sg;ext cF
 exact ?V _ _
theorem Lb{xs:Aq}{ms:Ms}(e:Int):?G9=wF (fun p=>?iS) ms:=by
 have h:=AN e (Qe xs ms ?k3);change wF ?vQ ?gI=?G9 at h;rw[←h];rw[jV];unfold wF
 congr 1
 apply qq1;intro p _;rw[kW]
theorem JT{φ:?mQ}:∀{ms:Ms},(∀p∈ms,?gS=0)->?a6=0
 | [],_=>rfl
 | ?fY,h=>by
   rw[E6,h p ?f6,JT (?Z3 h)];simp
theorem nU[?cE]{ms:Ms}(hin:∀p∈ms,?mZ/\p.1<?cR):?R3=[]:=by
 have z:∀e,Ay (?R3) e=0:=by
  intro e;rw[Lb,jV];refine JT ?iP;obtain⟨h0,h1⟩:=hin p hp
  have hq:xs[?oP]?=?c (?nO):=by
   ext e0;rfl
  unfold face;exact Ai6 hs hq e
 have hn:=Qe xs (Dh xs ms) (Dh xs ms).length;have hz:=Zi xs (Dh xs ms) (Dh xs ms).length;change nd (Dh xs (Dh xs ms)) at hn;change nz (Dh xs (Dh xs ms)) at hz;cases e:Dh xs (Dh xs ms) with
 | nil=>rfl
 | cons p r =>
   rw[e]at hn hz;have h1:=Et hn (qc9 (a:=p) (l:=r));have h2:=z p.1;rw[e]at h2;unfold Ay at h2;rw[h1]at h2;exact ?W h2 (hz p ?f6)
def Ao4(n:Nat)(k:Int):Bool:=?m (?cO=k+1) || (?m (k=0)&&?m (n=0))
def spN[?aV]:Nat->?F
 | 0=>[]
 | i+1=>if Ao4 (?wP).length k=true then ?UE++[?cD] else ?UE
def spots[?aV]:?F:=spN xs k ?cK
theorem HC[?G]:∀ms:Ms,?WV ?m7=?a6
 | []=>rfl
 | ?fY=>by
   have ih:=HC φ ms;unfold Dz at ih ⊢;by_cases z:p.2=0
   . rw[qt1 (?BF),ih,E6,z];simp
   . rw[qt0 (?BF),E6,E6,ih]
structure Part(xs:Aq)(need:Nat)(p:?F):Prop where
 ok:∀f∈p,0<=f/\f<?cR/\?IL=need
 agr:0<need->∀i j:Nat,i<j->?TM->?XE 0
section
variable[?i]
universe e9
theorem FT{ms:Ms}{k n:Int}[?jF](h:q∈?vP):q∈ms\/q=(k,?iI):=by
 unfold Jb at h;split at h
 . exact ?g ?HY
 . exact KI h
theorem Zw{ms:Ms}[?jG]{n:Int}:∀{i:Nat},i<=fs.length->∀q∈?nN,q.1∈?X (·.1)\/q.1∈fs
 | 0,_,q,h=>?g (qj4 (f:=(·.1)) h)
 | i+1,hi,q,h=>by
   rcases FT h with z | z
   . exact Zw O9m q z
   . subst z;refine ?k ?_;show ?f3∈fs;ext e0;exact ?fH
theorem bE{xs:Aq}{ms:Ms}:∀{i:Nat},?wH->∀q∈?nD,∃p∈ms,q.1∈?nO
 | 0,_,q,h=>?sL
 | i+1,hi,q,h=>by
   ext C6
   rcases Zw ?r q h with z | z
   . obtain⟨r,hr,er⟩:=?bZ z;obtain⟨p,hp,hq⟩:=bE O9m r hr;exact⟨p,hp,by rw[←er];exact hq⟩
   . exact⟨?sN,?fH,by rw[←e];exact z⟩
theorem gR{ms:Ms}[?jG]{n:Int}{M:Nat}(hm:∀p∈ms,?LD<=M):∀(i:Nat),∀q∈?nN,?UL<=M+?AU
 | 0,q,h=>by have:=hm q h;simp;ext bN
 | i+1,q,h=>by
   have ih:=gR hm i (fs:=fs) (n:=n);have e:?x*n.natAbs=?AU+n.natAbs:=Nat.succ_mul ..;rcases FT h with z | z
   . have:=ih q z;omega
   . subst z;have hs:(?gP).natAbs=n.natAbs:=by unfold Xv;ext cF
     have hg:(?R2).natAbs<=M+?AU:=by
      unfold Ay;cases e2:lookI (Ho ms fs n i) (fs.getD i 0) with
      | none=>simp
      | some v=>exact ih _ (M9 e2)
     show(?R2+?gP).natAbs<=_;omega
theorem GQ[?j7]{ms:Ms}{B:Nat}(hb:∀p∈ms,?LD<=B):∀{i:Nat},?wH->∀q∈?nD,?UL<=i*(4*B)
 | 0,_,q,h=>?sL
 | i+1,hi,q,h=>by
   have ih:=GQ h4 hb (i:=i) O9m;ext C6
   have:=gR ih _ q h;rw[e]at this;have hB:=hb ?sN (?fH)
   have hl:?RU<=4:=by
    rcases Jp (l:=xs) (i:=?SI) (d:=[]) with z | z
    . exact h4 _ z
    . rw[z];exact ?a4
   have h2:?RU*ms[i].2.natAbs<=4*B:=qf5 hl hB;have e3:?x*(4*B)=i*(4*B)+4*B:=Nat.succ_mul ..;omega
theorem e9[?cE]{k:Int}{ms:Ms}(hm:∀p∈ms,?mZ/\p.1<?cR/\C6 (?nO).length=k):Ov xs ?hU ?gI=true:=by
 refine qe5.mpr ?tB;have hz:q.2≠0:=Zi xs ms _ q hq;obtain⟨p,hp,hf⟩:=bE ?r q hq;obtain⟨a,b,c⟩:=hm p hp
 have hx:xs[?oP]?=?c (?nO):=by
  ext e0;rfl
 have F:=hs _ _ hx;obtain⟨r,hr,hl⟩:=F.bel q.1 hf;have q0:=F.low q.1 hf
 have hr2:xs[?BD]?=?c r:=by
  rw[qk8]at hr;split at hr
  . exact hr
  . cases hr
 have Cb1:?BD<xs.length:=(?bC hr2).1;have er:?yJ=r:=by rw[qa3,hr2];rfl
 have hlr:C6 ?uQ=k-1:=by
  unfold lev at hl;unfold C6 at c ⊢;have cr:=(hs _ _ hr2).cnt;have cp:=F.cnt;split at c<;>split<;>omega
 unfold M8;rw[qc4];refine⟨?_,by simpa using hz⟩;show(?m (0<=q.1)&&?m (?yR)&&?m (C6 (?yJ).length=k-1))=true;rw[er,qf9 q0,qf9 (show ?yR by omega),qf9 hlr];rfl
universe Hb
namespace L2
open PySem PySem.Spec PyProof.Rows
universe L2
namespace Hb
open PySem L2
def Vk[?aV](n:Nat):?F:=((?sJ).filter ?QD).map fun ?q2=>?cV
def Dy[?aV]:?F:=Vk xs k ?cK
theorem pF[?e2]{n:Nat}(h:?a1F n):?K7=?zA++[?cO]:=by
 unfold Vk;rw[qj7,qo5,qb4,qt0 (?oH)];rfl
theorem uA[?e2]{n:Nat}(h:¬?a1F n):?K7=?zA:=by
 unfold Vk;rw[qj7,qo5,qb4,qt1 (?oH)];simp
theorem Gp[?aV](n:Nat):?XB ?zA n:=by
 unfold Vk;rw[qa4];have:=qj8 (?QD) (?sJ);ext jD
section
variable[?i]
def D8:Sp:=fun vs H Q _=>Nv fun ?dR ?cD ?a0=>B4 (vs=[?y,?aT]) ?aY (?ZM 1000) (?a1L ((Dy xs i).map ?a3))
universe e9
theorem belowD_of{i b:Int}(h0:0<=i)(h1:i<b):belowD (?aT) b=true:=by
 show(?m (0<=i)&&?m (i<b))=true;rw[qf9 h0,qf9 h1];rfl
theorem US(g:?mQ)(sp:?F):?l4 g=Jq ?l9 (?YP g (?sT)):=by
 unfold Jq;apply List.ext_getElem
 . simp
 . intro i h1 h2;simp at h1;simp[h1]
theorem f9(xs:Aq)(p e:Int):Ay (?p6) e=?iS:=by
 rw[Lb];show 1*?iS+0=_;omega
theorem Ef{xs:Aq}{k p:Int}(h:?yA):?gY/\?gN/\?l8=k:=by
 unfold Dy Vk at h;obtain⟨j,hj,rfl⟩:=?s0;have h1:=?fI hj;have h2:=?hQ h1.1;refine⟨O9m,O9m,?_⟩;rw[qe3];simpa using h1.2
theorem aZ[?j7](p e:Int):(?iS).natAbs<?p7:=by
 rw[←f9 xs p e];unfold Ay;cases h:lookI (Dh xs [(p,1)]) e with
 | none=>decide
 | some v =>
   have hm:=M9 h;have:=GQ (B:=1) h4 (ms:=?cX) (fun q hq=>by rw[qk1]at hq;subst hq;exact qa1 1) ?r _ hm;show v.natAbs<?p7;have h2:v.natAbs<=1*(4*1):=this;omega
theorem Hi[?aV]:(?bX).Nodup:=by
 unfold Dy Vk;exact List.Pairwise.map _ (fun a b h=>O9m) (?S6 _ List.nodup_range)
theorem oG[?j4]:(?w3).map (·.1)=sp:=by
 rw[show(fun x:?aG=>x.1)=Prod.fst from rfl,List.map_fst_zip ?e]
theorem gZ[?j4](h:sp.Nodup):nd ?hB:=by
 unfold nd;rw[oG hl];exact h
theorem GZ[?j4]{i:Nat}(hi:?y1):?hB[i]?=?c (?sT,?kK):=by
 rw[qa0 (?kY),List.getElem_zip,qa3,qa3,?h3,?h8];rfl
theorem oY[?j4](h:sp.Nodup):?l4 (Ay (Dz ?hB))=ns:=by
 have hn:=gZ hl h;apply List.ext_getElem
 . simp[hl]
 . intro i h1 h2;rw[List.getElem_map,iV hn];have hi:?y1:=O9m
   have hz:=GZ hl hi;have hm:=qb0 hz;have hg:=Et hn hm;have e1:?sT=sp[i]:=by rw[qa3,?h3];rfl
   have e2:?kK=?fJ:=by rw[qa3,qa0 h2];rfl
   rw[e1,e2]at hg;unfold Ay;change (?OE).getD 0=?fJ;rw[show ?OE=?c ?fJ from hg];rfl
theorem oK[?G][?j4]:∀i,i<=sp.length->?WV ((?w3).take i)=Al (fun j=>φ (?s9 j 0)*?pS j 0) i
 | 0,_=>rfl
 | i+1,hi=>by
   rw[qo7,GZ hl ?e,Qv,oK φ hl i ?e];show _+(?kK*?KR+0)=?wI+?KR*?kK;rw[qf3 (?kK),qf1]
theorem rQ{xs:Aq}[?j4](e:Int):Ay (Dh xs (Dz ?hB)) e=Al (fun j=>Rb (?B (?s9 j 0).toNat []) e*?pS j 0) ?l9:=by
 rw[Lb,HC];have h:=oK (fun p=>?iS) hl ?l9 ?r;rw[qi1 (?kY)]at h;exact h
theorem X5{sp ns:?F}[?jF](h:q∈Dz ?hB):q.1∈sp/\q.2∈ns:=by
 have h1:=?HY;exact⟨(qq0 h1).1,(qq0 h1).2⟩
section
variable[?i]
def Jv[?b6]:Sp:=fun vs H Q _=>Ju fun(i b:Int)=>B4 (vs=[?aT,?d b]) (0<=i) (i<b) (Q ?eJ H)
def Rn:Sp:=fun vs H Q _=>Th fun ?cM (sp:?F) ?cZ=>D6 ?lA (?YR a (?l4 ?a3)) (Rd H b ?m0) (sp.length<=1000) (?a1L ((?l4 (Ay ms)).map ?a3))
def O5:Sp:=fun vs H Q _=>Nv fun ?dR ?a0 ?Z=>Lk (vs=[?y,?bD]) ?aY (?ZM 1000) ?oD ?BZ (k<5) (uO H (?nY).length ?gF (fun i j=>?HL) Q)
universe e9
theorem sumN_one{sp:?F}(h:sp.Nodup){k:Int}(hk:k∈sp)(c:Int):Al (fun m=>?PA) ?l9=c:=by
 obtain⟨i,hi,e⟩:=qg4 hk
 have key:∀m,?EP->(?PA)=(if m=i then 1 else 0)*(fun _:Nat=>c) m:=by
  intro m hm;rw[qa3,qa0 hm,Option.getD_some];by_cases q:m=i
  . subst q;rw[?bB,?I,qd5]
  . rw[?cU,if_neg,qg3];intro z;exact q ((List.getElem_inj h).mp (z.trans ?hA))
 rw[Ak key,Dj,?iH]
theorem jU{sp:?F}(hs:sp.Nodup)[?G]:∀{ms:Ms},?bA->(∀p∈ms,p.1∈sp)->?a6=Al (fun m=>?ZL ms) ?l9
 | [],_,_=>by
   rw[U2,Ak (g:=?h6) (fun m _=>by rw[Nh,qd9]),Qw]
 | ?fY,h,hk=>by
   ext j6;have ih:=jU hs φ (ms:=ms) h.2 (?Z3 hk);have h1:=?aP hs (hk p ?f6) (?gS*p.2)
   have e:∀m,?EP->?ZL ?pF=(if ?dG=p.1 then ?gS*p.2 else 0)+?ZL ms:=by
    intro m _;rw[Ep];by_cases q:?dG=p.1
    . rw[?q ?rA,?gE,q,F3 h.1,qd9,qf1]
    . rw[?j (?XG q),?cU,ql6]
   rw[E6,ih,Ak e,C4,h1,qf3 p.2]
def Pi[?aV][?fG]:Int:=?HL
theorem X0{xs:Aq}{k p:Int}(h0:?gY)(h1:?gN)(h:?l8=k):?yA:=by
 unfold Dy Vk;refine ?rS ⟨?eA,qh2.mpr ⟨?uH,qf9 h⟩,O9m⟩
theorem yL[?e2]{j:Nat}(hj:j<?gF):?q9∈?bX:=by
 rw[qa3,?f9];exact ?BS
theorem IG[?cE]{k:Int}{i j:Nat}(hj:j<(?JG).length):Al (fun m=>Pi xs k i m*Pi xs ?a2 m j) ?gF=0:=by
 obtain⟨q0,q1,q2⟩:=Ef (yL hj);unfold Pi;rw[?zX];generalize (?JG).getD j 0=p at q0 q1 q2;generalize ?pP i 0=e;have hcb:=e9 hs (k:=k+1) (ms:=?cX) (?YE ⟨q0,q1,q2⟩);rw[?zX]at hcb
 have hkey:∀r∈?p6,r.1∈?bX:=fun r hr=>by
  ext VI;have h2:(?U9&&?m (C6 (?B r.1.toNat []).length=k))=true:=h1.1;ext VC
 have hbb:=nU hs (ms:=?cX) (?YE ⟨q0,q1⟩);have hg:=Lb (xs:=xs) (ms:=?p6) e;rw[hbb,Nh,jU (Hi xs k) _ (show nd (?p6) from Qe ..) hkey]at hg;refine ?HT (Ak fun m _=>?_) hg.symm;rw[f9]
theorem TZ(xs:Aq):Dy xs (0-1)=[]:=by
 cases h:Dy xs (0-1) with
 | nil=>rfl
 | cons p l =>
   exfalso
   have h1:=(Ef (xs:=xs) (k:=0-1) (p:=p) (by rw[h];exact ?wJ)).2.2;unfold C6 at h1;split at h1<;>omega
theorem HH[?j7](k:Int)[?fG]:?FA<?p7:=?SH
section
variable[?i]
universe e9
noncomputable abbrev Do[?aV]:Nat:=?gF
theorem uK[?jG](h:fs.length<=4)(e:Int):(Rb fs e).natAbs<=2:=by
 have key:∀i,i<=4->(i=0->?bV=0)/\(i=1->0<=?bV/\?bV<=1)/\(i=2->-1<=?bV/\?bV<=1)/\(i=3->-1<=?bV/\?bV<=2)/\(i=4->-2<=?bV/\?bV<=2):=by
  intro i
  induction i with
  | zero=>intro _;exact⟨?v5,?gQ,?gQ,?gQ,?gQ⟩
  | succ i ih =>
    intro hi;obtain⟨h0,h1,h2,h3,h4⟩:=?i9;have e1:F2 fs e ?x=?U6:=rfl
    rw[e1];refine⟨?gQ,?c6,?c6,?c6,?c6⟩
    . have:=h0 O9m;ext cF
    . have:=h1 O9m;ext cF
    . have:=h2 O9m;ext cF
    . have:=h3 O9m;ext cF
 have:=key ?t1 h;show(F2 fs e ?t1).natAbs<=2;rcases (show ?a0E 0\/?a0E 1\/?a0E 2\/?a0E 3\/?a0E 4 by omega) with z | z | z | z | z
 . have:=?hO z;omega
 . have:=?rT z;omega
 . have:=this.2.2.1 z;omega
 . have:=this.2.2.2.1 z;omega
 . have:=this.2.2.2.2 z;omega
theorem tG[?j7](k:Int)[?fG]:?FA<=2:=by
 refine uK ?_ _;rw[qa3];cases e:xs[((Dy xs k).getD j 0).toNat]? with
 | none=>exact ?a4
 | some x=>exact ?FX
theorem PD{xs:Aq}{k l:Int}(h:k≠l):?h9+Do xs l<=xs.length:=by
 have nd:(?DL).Nodup:=by
  rw[qs0];refine⟨?BG,?BG,fun a ha b hb e=>h ?_⟩;have h1:=(Ef ha).2.2;have h2:=(Ef hb).2.2;rw[←h1,←h2,e]
 have sb:(?DL) ⊆ upN ?cK:=fun p hp=>by
  have:?UC:=by
   ext CV
   . exact ?P6
   . exact ?P6
  unfold upN;rw[qd6];exact⟨?eA,?uH,O9m⟩
 have:=nd.length_le_of_subset sb;rw[qc3,JV]at this;ext bN
noncomputable abbrev Bi:=Int × Ms × Ms × Ms
def Mq[?aV](v:?n):Ms:=Dz (?qJ (?k1))
structure SO[?tL]:Prop where
 lev:Lat.Lev (?nC) ?c5 z (Pi xs k) L G
 fin:Ac4 z (?jX) (2 ^ kB z) ?bY (kS z (?jX)) (Lat.gT ?c5 G (Pi xs ?a2)) k0 f l r
 ch:?FC
 kz:k0<=z
 kw:k0<=?jX
 bL:?K5
 bG:?FE
 zm:z<=?h9
def Ea[?tL](i:Nat):Bi :=
 (?dS,?SW,?a0Y k (?dV z l.1 G i),?QS)
def Cg[?tL]:?cC:=?NE (?X3 Ea k)
def Uz[?aV][?cH]:Prop:=∃z k0 L G f l r,?TL/\ps=?vT
theorem QH[?cE](k:Int):∀c,c<?jX->∀x,x<?nC->?U4 ?c5 (Pi xs k) (fun a=>Pi xs ?a2 a c) x=0:=fun c hc x _=>IG hs hc
structure Wg(xs:Aq)(n:Nat)(zs ks:?o)(Ls Gs:?SA)(fs:?c7)(lp rp:?T0)[?c2]:Prop where
 len:ls.length=n
 z0:zs 0=?q3/\Ls 0=Lat.one/\Gs 0=Lat.one
 nx:∀j,j<n->zs ?bP=?hF-?bG/\Ls ?bP=(?YP ?lP (?bG+i))/\Gs ?bP=?YP ?x6 (?bG+i)
 lv:∀j,j<n->?ZC SO/\ls[j]?=?c (?iZ)
def Nn(xs:Aq)(n:Nat)[?c2](z:Nat)(L G:Lat.Mat):Prop:=∃zs ks Ls Gs fs lp rp,?OC/\zs n=z/\Ls n=L/\Gs n=G
theorem Nn.first(xs:Aq):Nn xs 0 [] (?q3) ?fX ?fX :=
 ⟨fun _=>?q3,?h6,?MZ,?MZ,fun _ _=>0,?JZ,?JZ,⟨rfl,?MW,?M0,?M0⟩,rfl,rfl,rfl⟩
def bZ[?e5](g:?tG)(n:Nat)(a:α):?tG:=fun j=>if j=n then a else g j
theorem Gy[?e5](g:?tG)(n:Nat)(a:α):bZ g n a n=a:=?I
theorem Ee[?e5](g:?tG){n j:Nat}(a:α)(h:j≠n):bZ g n a j=g j:=?aA
theorem Nn.snoc{xs:Aq}{n:Nat}[?fD]{z k0:Nat}{L G:Lat.Mat}[?j5](h:?G6)(b:?X3 SO ?cO) :
 Nn xs ?v (ls++[?X3 Cg ?cO]) (Do xs ?cT-k0) (?G4) ?LU:=by
 obtain⟨zs,ks,Ls,Gs,fs,lp,rp,t,rfl,rfl,rfl⟩:=h;refine⟨bZ zs ?v (Do xs ?cT-k0),bZ ks n k0,bZ Ls ?v ?G4,bZ Gs ?v ?LU,bZ fs n f,bZ lp n l,bZ rp n r,⟨?_,?_,?hE,?hE⟩,Gy ..,Gy ..,Gy ..⟩
 . rw[qc3,t.len];rfl
 . rw[?rP,?tJ,?p2];exact t.z0
 . by_cases e:j=n
   . subst e;rw[Gy,Gy,Gy,Gy,Gy];exact ?MW
   . rw[?rP,?T2,?tJ,?p2,?Q8];exact ?FG
 . by_cases e:j=n
   . subst e;rw[?rP,?tJ,?p2,Gy,Gy,Gy,Gy];exact⟨b,by rw[qd3 (by rw[t.len];ext d9),t.len,qi4];rfl⟩
   . rw[?rP,?tJ,?p2,?T2,Ee fs _ e,Ee lp _ e,?Q8];obtain⟨h1,h2⟩:=?AC;exact⟨h1,by rw[qc6 (by rw[t.len];omega)];exact h2⟩
theorem Nn.lev{xs:Aq}{n:Nat}[?fD]{z:Nat}{L G:Lat.Mat}(h:?G6):∀(j:Nat) ps,?a07 j->?T1:=fun j ps e=>by
 obtain⟨zs,ks,Ls,Gs,fs,lp,rp,t,_⟩:=h;ext V4;exact⟨_,_,_,_,_,_,_,h1,rfl⟩
universe Hb
namespace L2
open PySem PySem.Spec PyProof.Rows
mutual
def tF:D->PyData
 | ?eJ=>?bU
 | .bl b=>?qO
 | ?aT=>?aT
 | ?oA=>?oA
 | ?zC=>.tuple ?kP
 | ?zS=>.list ?kP
 def toPDs:?U D->?U PyData
 | []=>[]
 | d::ds=>tF d::?UO
 end
section
variable[?W5]
mutual
theorem OY(I:?IE):∀(d:D) {v:V}{u:Value},Rep X.K H v d->RelV v u->∃as,Reads ?dC u (tF d) as
 | ?eJ,v,u,h,r=>by
   cases (?a0R v ?eJ);obtain rfl:u=?bU:=r;exact(?ZD ?bU)
 | .bl b,v,u,h,r=>by
   cases (show v=.bl b from h);obtain rfl:u=?qO:=r;exact(?ZD ?qO)
 | ?aT,v,u,h,r=>by
   cases (?a0R v ?aT);obtain⟨t,rfl⟩:=r;exact⟨_,?d i t⟩
 | ?oA,v,u,h,r=>by
   cases (?a0R v ?oA);obtain⟨t,rfl⟩:=r;exact⟨_,.str x t⟩
 | ?zC,v,u,h,r=>by
   ext VL;ext CG;obtain⟨o,ho,hc,n,hd⟩:=(?Z2 a)
   obtain⟨as,ra⟩:=?O7;exact⟨as,.tuple ho hc hd (by simpa using ra)⟩
 | ?zS,v,u,h,r=>by
   ext VL;obtain⟨its,rv,p,hz⟩:=?O3;obtain⟨o,ho,hc,n,hd⟩:=p.isList;obtain⟨as,ra⟩:=?O7;exact⟨a::as,.list ho hc hd (by simpa using ra)⟩
theorem readsAll_of(I:?IE):∀(ds:?U D) [?d8]{us:?sY},Reps X.K H vs ds->Vals vs us->∃as,ReadsAll ?dC us ?kP as
 | [],vs,us,h,r=>by
   cases (?a0R vs []);cases r;exact⟨_,.nil⟩
 | d::ds,vs,us,h,r=>by
   obtain⟨v,q,rfl,hv,hq⟩:=h;cases r with
   | cons r1 r2 =>
     obtain⟨as,ra⟩:=OY I d hv r1;obtain⟨bs,rb⟩:=?OI I ds hq r2;exact⟨_,.cons ra rb⟩
end
universe e9
mutual
theorem DG:∀d:D,?PW=false
 | ?eJ=>rfl
 | .bl _=>rfl
 | ?d _=>rfl
 | .str _=>rfl
 | ?zC=>?zN
 | ?zS=>?zN
 theorem hasDict_toPDs:∀ds:?U D,PyData.hasDictAll ?kP=false
 | []=>rfl
 | d::ds=>by
   show(?PW || PyData.hasDictAll ?kP)=false;rw[DG d,?zN];rfl
end
universe L2
namespace L2
open PySem PySem.Spec PyProof.Rows
section
variable{X:Cx}[?L]
universe e9
section
variable[?W5]
universe e9
structure Fin(B k:Nat)(p:PyData):Prop where
 sh:p.showable=true
 le:p.shown.length<=B
 dp:p.depth<=k
section
variable[?CQ]{E:?qQ}
universe e9
section
variable[?CQ]{R:Result->?xA}
universe e9
universe L2
namespace Hb
open PySem L2
theorem Rows.drop{H H1 H2:Hp}{D C:Addr}{as:?iD}{w k:Nat}[?tY](R:?M7)(hC:H1 C=none)(h2:H2=upd H1 C (?l ((?H6).map V.ref))):Rows H H2 C (?H6) w (?I7):=by
 subst h2;refine⟨R.same.trans (?c8 hC),R.same.free hC,Ab,fun j a e=>?_⟩;rw[qv8]at e;obtain⟨h1,h3,h4⟩:=R.row ?dJ a e;have ne:a≠C:=fun z=>by rw[z,hC]at h4;cases h4
 exact⟨h1,ne,by rw[Ai ne];exact h4⟩
section
variable[?i]
universe e9
def Ig(H:Hp)(v:V)(p:Bi):Prop:=∃t a b c,v=?hX/\?a03 t/\H a=?c (.dK (cK p.2.1))/\?a1S b ?g1/\?a1S c ?eB/\b≠c
theorem Ig.same[?aW][?jK](h:?kE)[?d7]:Ig H' v p:=by
 obtain⟨t,a,b,c,e,h1,h2,h3,h4,ne⟩:=h;exact⟨t,a,b,c,e,?GB,?a00 h2,?a00 h3,?a00 h4,ne⟩
def B6(H:Hp):?a1U ?p ?cC
 | [],[]=>True
 | ?mK,?f1=>?kE/\?i5
 | _,_=>False
theorem B6.same[?aW][?d7]:?JW
 | [],[],h=>h
 | ?mK,?f1,h=>⟨h.1.same s,B6.same s h.2⟩
 | [],?bF,h=>h.elim
 | ?bF,[],h=>h.elim
theorem B6.len{H:Hp}:∀[?e1],?i5->?I9
 | [],[],_=>rfl
 | ?mK,?f1,h=>by rw[qd4,qd4,B6.len h.2]
 | [],?bF,h=>h.elim
 | ?bF,[],h=>h.elim
theorem B6.snoc{H:Hp}:∀[?e1][?jK],?i5->?kE->B6 H ?FV (ps++[p])
 | [],[],v,p,_,h=>⟨h,trivial⟩
 | u::vs,q::ps,v,p,h,h2=>⟨h.1,B6.snoc h.2 h2⟩
 | [],?bF,_,_,h,_=>h.elim
 | ?bF,[],_,_,h,_=>h.elim
theorem B6.get{H:Hp}:∀[?e1]{i:Nat}{v:V},?i5->?i4->∃p,?nS/\?kE
 | [],[],i,v,_,e=>?PP
 | u::vs,q::ps,0,v,h,e=>⟨q,rfl,by have:u=v:=?lO
                                  subst this;exact h.1⟩
 | u::vs,q::ps,i+1,v,h,e=>by
   have e':?i4:=?lO
   obtain⟨p,h1,h2⟩:=B6.get h.2 e';exact⟨p,?a9,h2⟩
 | [],?bF,_,_,h,_=>h.elim
 | ?bF,[],_,_,h,_=>h.elim
theorem Ig.put{H:Hp}[?dA]{vs us:?p}[?jK](h:?kE)(hD:H D=?qA):Ig (upd H D ?K0) v p:=by
 obtain⟨t,a,b,c,e,h1,h2,h3,h4,nbc⟩:=h
 have ne:∀{x:Addr}{o:HO},H x=?b4->(∀ws,o≠?l ws)->x≠D:=fun {x o} e h z=>by
  rw[z,hD]at e;cases e;exact h _ rfl
 exact⟨t,a,b,c,e,by rw[?a0I h1];exact h1,by rw[?a0I h2];exact h2,by rw[?a0I h3];exact h3,by rw[?a0I h4];exact h4,nbc⟩
theorem B6.put{H:Hp}[?dA]{us0 us1:?p}(hD:?a1J D us0):∀[?e1],?i5->B6 (?Y2 D us1) vs ps
 | [],[],h=>h
 | ?mK,?f1,h=>⟨h.1.put hD,?v7 hD h.2⟩
 | [],?bF,h=>h.elim
 | ?bF,[],h=>h.elim
theorem iG{k z:Nat}(h:k<=z)[?aM]:VI k f++?oJ (z-k) (?a3 0)=VI z (?kA f k):=by
 refine qs2 fun i=>?_;by_cases hi:i<k
 . rw[qc6 (by rw[Bu];exact hi),Cp hi,?l2];unfold Lat.numAt;rw[?iH]
 . rw[qd3 ?e9,Bu];by_cases hz:i<z
   . rw[Cp hz,qs8,?gB];unfold Lat.numAt;rw[?j hi]
   . rw[qh9 (by rw[qk7];omega),?m6]
theorem QF(n:Nat)[?aM]:(Jq n f).map ?a3=VI n f:=rfl
theorem g7{a b:Int}(ha:a.natAbs<?yE)(hb:b.natAbs<?yE):?cA a b:=Rs ha hb (by unfold bookF;decide)
section
variable[?i]
def AR:Sp:=fun vs H Q _=>Xr fun ?cM ?a0 ?Z ?JO=>Hq (?Z0 ?bH) ?aY (?ZM 1000) (?YR b (?lK ?a3)) (ns.length=?gF) (?a2D (Dz (?qJ ns)))
def Wk:Sp:=fun vs H Q _=>Aw2 fun(a tp nm r1 D1 D2 b2:Addr) (vl vg:V) ?a0 ?Z (z k0 w:Nat) (L G:Lat.Mat) ?xV ?kF=>XR (vs=[?y,?bD,?f tp,vl,vg]) ?aY ?eW (w=?jX) (?a23 vl (dT z ?c5 L)) (?a23 vg (dT z ?c5 G)) (Rz K H tp nm r1 D1 D2 b2 z w k0 f l r) (z<=40) (k0<=z) (k0<=w) ((∀i,?j2->f i≠0)) (?dL z z ?bY l.1) (?dL z z ?bY l.2) (?K5) (?FE) (∀[?D2] (H':Hp),?aX->?J->?A9->B6 H' us (?vT)->?bQ)
def Gd(D:Addr)(H:Hp)[?jI][?c2]:Prop:=?J9/\∀(i:Nat) v ps,?i4->?NY->∃a us,v=?y/\a≠D/\?xF
def Oz(H:Hp)[?jI][?c2]:Prop:=?J9/\∀(i:Nat) v ps,?i4->?NY->∃a us,v=?y/\?xF
def Wo:Sp:=fun vs H Q _=>Ju fun ?dR ?a0=>D6 ?pZ ?aY ?lN ?eW (∀[?D2] [?c2] (H':Hp),?aX->?J->?A9->?SV->(?M6)->Oz H' us ls->?bQ)
universe e9
theorem one_bits(n m:Nat):?dL n m ?bY ?fX:=fun i j _ _=>by
 have h1:1<?yE:=Nat.one_lt_two_pow (by unfold bookF;decide);unfold Lat.one;split
 . exact h1
 . exact qu5 (?c0:0<1) h1
theorem KZ[?L]{H:Hp}{v:V}{n:Nat}(h:?X6 n ?QT):?X6 n ?fX:=by
 have e:(fun i j:Nat=>if j=i then ?r6 else 0)=Lat.one:=by
  funext i j
  unfold Lat.one;by_cases h:i=j
  . rw[?b2,?y0]
  . rw[?aA,?j ?RP]
 rwa [e]at h
theorem VG[?L]{H:Hp}{C:Addr}{us:?p}{h w k:Nat}[?tY](hr:∀i u,us[i]?=?c u->i<h/\∃b,u=?bH/\?YR b (?N5))(hl:?a0A h)(hC:?YR C (us.drop k)):?a23 ?yN (dT (h-k) w ?I7):=by
 refine GL hC (by rw[qj0,hl]) ?nU;have e:us[k+i]?=?c (us[k+i]' ?eV):=?fU;obtain⟨_,b,eb,hb⟩:=hr ?b0 _ e;exact⟨b,by rw[qv8,e,eb],hb⟩
def Ab3(us:?p):Prop:=∀u∈us,∃a,u=?y
theorem Xt[?L]{H:Hp}{D b:Addr}{xs:?p}{o:HO}(h:?YR b xs)(ne:b≠D):SqL K ?pO b xs:=by
 rcases h with(h|⟨q,h⟩) | h
 . exact ?a0K ?y4
 . ext VQ
 . exact ?eP
theorem tM[?L]{H:Hp}{D b:Addr}{xs us:?p}{o:HO}(h:Ed K H b xs)[?n3]:Ed K ?pO b xs:=by
 rcases h with(h|⟨q,h⟩) | h
 . ext VT
   exact ?a0K ?y4
 . ext VT
   ext VQ
 . exact ?eP
theorem DS[?L]{H:Hp}{D t:Addr}{us:?p}{h w:Nat}[?tY]{o:HO}(hr:?a23 (?hX) (dT h w f))(ne:t≠D)(hw:0<h->0<w)[?n3](OC:Ab3 us):Rep K ?pO (?hX) (dT h w f):=by
 obtain⟨_,tu,ez,hq,hl,On⟩:=Id hr;cases ez;refine GL (Xt hq ne) hl ?nU;have e:tu[i]?=?ZV tu:=?fU;obtain⟨_,b,eb,hb⟩:=On i _ e;refine⟨b,?PF,?_⟩;rcases hb with(hb|⟨q,hb⟩) | hb
 . refine Xt (?g (?g hb)) ?c6;rw[z,hD]at hb;have e1:us=?N5:=by injection hb with e;injection e
   have hw':=hw O9m;have e2:us[0]?=?c (?d (f i 0)):=by rw[e1];exact Cp hw'
   obtain⟨c,hc⟩:=OC _ (qb0 e2);cases hc
 . refine Xt (?YA q hb) ?c6;rw[z,hD]at hb;cases hb
 . exact ?k hb
structure JQ(D nm r1 D1 D2 b2:Addr):Prop where
 e1:nm≠D
 e2:r1≠D
 e3:D1≠D
 e4:D2≠D
 e5:b2≠D
theorem Rz.put[?L]{H:Hp}{D tp nm r1 D1 D2 b2:Addr}{n w k:Nat}[?j5]{us:?p}{o:HO}[?W2](ne:?KT)[?n3](OC:Ab3 us):?X7 ?pO :=
 ⟨tM x.tup hD,Xt x.num ne.e1,?a0Z ?wE ne.e2,?a0Z ?uX ne.e3,?a0Z ?xX ne.e4,?a0Z ?vV ne.e5⟩
theorem l8.ne[?L][?aW]{tp nm r1 D1 D2 b2 D:Addr}{n w k:Nat}[?j5]{o:HO}[?VZ](hD:H D=?b4):?KT:=by
 have go:∀a,(?T5)->a≠D:=fun a h z=>by
  have:=(x.new a h).1;rw[z,hD]at this;cases this
 exact⟨go _ (?g rfl),go _ (?k (?g rfl)),go _ (?k (?k (?g rfl))),go _ (?ZG ?g),go _ (?ZG ?k)⟩
def xR[?i](H:Hp)(a D:Addr)(xs:Aq)(k:Nat)(σ:St)(G':Hp):Prop :=
 ∃(us:?p) (ls:?eF) (la ga:Addr) (z:Nat) (L G:Lat.Mat) (o4 o5 o6 o7:?mB),σ=[rS a,rS D,rS la,rS ga,o4,o5,o6,o7]/\?UF/\G' D=?bR/\ls.length=k/\?a0W k/\Gd D G' us ls/\la≠D/\ga≠D ∧
   Rep K G' (?f la) (dT z ?iL L)/\Rep K G' (?f ga) (dT z ?iL G)/\Lat.Lev (Do xs (?Z-1)) ?iL z (Pi xs ?Z) L G/\z<=?k0/\?dL z ?iL ?bY L/\?dL z ?iL ?bY G
theorem Gd.out[?dA]{H:Hp}[?d8][?fD][?u0]:?N0 :=
 (?XR _ ⟨a,us,e,h1,h2⟩)
theorem Gd.same[?dA][?aW][?d8][?fD][?u0][?d7]:Gd D H' vs ls :=
 (?XR n ⟨a,us,e,n,?GB,h2.same s⟩)
theorem Gd.refs[?dA]{H:Hp}[?d8][?fD][?u0]:Ab3 vs:=fun u hu=>by
 obtain⟨i,hi⟩:=qg0 hu;have hl:=?uA;have h0:=h.1;obtain⟨a,_,e,_⟩:=h.2 i u _ hi (?fU);exact⟨a,e⟩
theorem Gd.snoc{D E:Addr}{H:Hp}{vs eu:?p}[?fD][?fF][?u0](hD:H D=?qA)(ne:E≠D)(hE:?a1J E eu)(r:B6 H eu ps):Gd D (?Y2 D (vs++[?f E])) (vs++[?f E]) (ls++[ps]):=by
 refine⟨by rw[qc3,qc3,h.1];rfl,fun i v qs e1 e2=>?_⟩;have h0:=h.1;by_cases hi:?BX
 . rw[?v1]at e1;rw[?rN]at e2;obtain⟨a,us,e,n,h1,h2⟩:=?a20 v qs;exact⟨a,us,e,n,by rw[Ai n];exact h1,?v7 hD h2⟩
 . ext V9
   ext VE;have q1:v=?f E:=?PJ
   have q2:qs=ps:=?OP
   subst q1 q2;exact⟨E,eu,rfl,ne,by rw[Ai ne];exact hE,?v7 hD r⟩
universe Hb
namespace L2
open PySem PySem.Spec PyProof.Rows PySem.SeqAt
section
variable{X:Cx}{n:Nat}[?L]
universe e9
universe L2
namespace Hb
open PySem L2
def Rc[?cH]:?cC:=ps.filter fun p=>?m (p.1≠1)
theorem fP[?cH](p:Bi):Rc (ps++[p])=if ?jP then ?h2 else ?h2++[p]:=by
 unfold Rc;rw[qo5];by_cases h:?jP
 . rw[?b2,qm0,?ZY ?j,List.filter_nil,List.append_nil]
 . rw[?aA,qm0,?ZY ?q,List.filter_nil]
def lift1(fl:Ms)[?cG](g:?aG):?f2:=lf.set ?A5 (F1 (?eX ?A5 []) (Ph g.2 fl))
def Qf[?cG](p:Bi):?f2:=if ?jP then p.2.2.1.foldl (lift1 ?eB) lf else lf
def Kc[?cG][?cH]:?f2:=ps.foldl Qf lf
def Cc(n:Nat)[?c2]:?f2:=?IB Kc (?oJ n [])
structure Du(ms:Ms):Prop where
 n:?bA
 z:?nZ
 k:?lM
theorem Du.nil:Du []:=⟨qr5,(fun p h=>?sL),(fun p h=>?sL)⟩
theorem Du.len{ms:Ms}(h:?m8):?LZ:=by
 have:=cY (?X fun(p:?aG)=>p.1) (upN 40) h.n fun x hx=>by
  obtain⟨p,hp,rfl⟩:=?bZ hx;have:=h.k p hp;unfold upN;exact ?rS ⟨?oP,?uH,O9m⟩
 rwa [qa4,JV]at this
theorem gC{ms:Ms}{j:Int}(h:?kZ≠0):j∈?X (·.1):=by
 by_cases e:j∈?X (·.1)
 . exact e
 . exact ?W (F3 e) h
theorem Du.plus[?jL](h1:?m8)(h2:Du ns):Du ?gA:=by
 obtain⟨r1,r2,_,r4⟩:=KD ns ms h1.n h1.z h2.n;refine⟨r1,r2,?iP⟩;have e:=Et r1 hp;have e2:Ay ?gA p.1=p.2:=by unfold Ay;rw[e];rfl
 have hz:=r2 p hp;rw[←e2,r4]at hz
 have:p.1∈?X (·.1)\/p.1∈?lK (·.1):=by
  by_cases q:Ay ms p.1=0
  . exact ?k (gC O9m)
  . exact ?g (gC q)
 rcases this with h | h
 . obtain⟨q,hq,eq⟩:=?s0;rw[←eq];exact h1.k q hq
 . obtain⟨q,hq,eq⟩:=?s0;rw[←eq];exact h2.k q hq
theorem Du.times{ms:Ms}(h:?m8)(n:Int):Du (Ph n ms):=by
 unfold Ph;split
 . exact Du.nil
 . rename_i hn
   refine⟨?_,?iP,?iP⟩
   . have:=h.n;unfold nd at this ⊢;rw[qi9];ext bN
   . ext CM;exact Int.mul_ne_zero hn (h.z q hq)
   . ext CM;exact h.k q hq
def Gx(n:Nat)[?cG]:Prop:=lf.length=n/\∀m∈lf,Du m
theorem Gx.at{n:Nat}[?cJ](h:?dH)(i:Nat):Du (?eX i []):=by
 rw[qa3];cases e:lf[i]? with
 | none=>exact Du.nil
 | some m=>exact h.2 m ?BO
theorem Gx.lift1{n:Nat}[?cJ][?W1]:Gx n (?QG):=by
 refine⟨by unfold Hb.lift1;rw[qi2];exact h.1,?vN⟩;rcases qn2 hm with q | rfl
 . exact h.2 m q
 . exact(h.at _).plus (hf.times _)
theorem Gx.go{n:Nat}{fl:Ms}(hf:Du fl):∀(gs:Ms) [?cJ],?dH->Gx n (?MS (Hb.lift1 fl) lf)
 | [],_,h=>h
 | g::gs,_,h=>Gx.go hf gs (h.lift1 hf g)
structure Mt(n:Nat)(p:Bi):Prop where
 gk:∀g∈?g1,?vW
 fl:Du ?eB
 mul:∀g∈?g1,∀q∈?eB,?cA g.2 q.2
def Fk(O H:Hp)[?jI][?cG]:Prop:=vs.length=lf.length/\∀(i:Nat) v,?i4->∃c,v=?d0/\?m3/\?a1S c (?eX i [])
theorem Gx.part{n:Nat}[?cJ]{p:Bi}(h:?dH)(hp:?nP):Gx n (Qf lf p):=by
 unfold Qf;split
 . exact Gx.go hp.fl _ h
 . exact h
theorem Gx.parts{n:Nat}:∀[?fF][?cJ],?dH->(∀p∈ps,?nP)->Gx n (?zB)
 | [],_,h,_=>h
 | ?f1,_,h,hp=>Gx.parts (ps:=ps) (h.part (?GV)) (?Z3 hp)
theorem Gx.first(n:Nat):Gx n (?oJ n []):=⟨qk7 ..,fun m hm=>by rw[(List.mem_replicate.mp hm).2];exact Du.nil⟩
theorem Fk.same[?jJ][?d8][?cJ](h:?uP)[?d7]:?HQ :=
 (?ZZ ⟨c,e1,e0,s _ _ e2⟩)
theorem Fk.keep[?jJ][?d8][?cJ](h:?uP)(s:∀c kvs,?m3->H c=?c (.dK kvs)->H' c=?c (.dK kvs)):?HQ :=
 (?ZZ ⟨c,e1,e0,s _ _ e0 e2⟩)
theorem Fk.snoc[?V5]:Fk O H (vs++[?d0]) (lf++[m]):=by
 have h0:=h.1;refine⟨?xN,fun i v ei=>?_⟩;rw[qa3];by_cases hi:?BX
 . rw[?v1]at ei;rw[?rN,←qa3];exact h.2 i v ei
 . have hi2:=(?bC ei).1;rw[qc3,qp1]at hi2;have eq:?E2:=O9m
   subst eq;rw[?pM,qi4]at ei;rw[h0,?pM,qi4];have q1:v=?d0:=by simpa using ei.symm
   exact ?TN
theorem Fk.set[?V5](i:Nat):Fk O H (vs.set i (?d0)) (lf.set i m):=by
 have h0:=h.1;refine⟨by rw[qi2,qi2,h0],fun j v ej=>?_⟩;rw[qa3];by_cases q:i=j
 . subst q;have hl:=(?bC ej).1;rw[qi2]at hl;rw[qo6 hl]at ej;rw[qo6 ?e];have q1:v=?d0:=by simpa using ej.symm
   exact ?TN
 . rw[ql1 q]at ej;rw[ql1 q,←qa3];exact h.2 j v ej
def Kr[?b6]:Sp:=fun vs H Q _=>Nv fun ?dR ?hH ?xB=>D6 ?pZ (H a=?bR) (?N6) (ps.length<=1000) (∀(D:Addr) (us':?p) (H':Hp),?aX->?J->?dN=?WO us'->B6 H' us' (?h2)->?bQ)
def Wl[?i]:Sp:=fun vs H Q _=>Xr fun ?cM ?a0 ?hH ?xO=>Lk ?lA ?aY ?eW (H b=?bR) (Oz H us ls) ((∀ps∈ls,?yV)) (∀(D:Addr) (ws:?p) (H':Hp),?aX->?J->?dN=?WO ws->Fk H H' ws (?mD)->?bQ)
theorem Vr(n:Nat):C6 n=((n-1:Nat):Int):=by
 unfold C6;ext cF
theorem NB{xs:Aq}{p:?F}(h:Aw1 xs p):Z8 xs (tI p)=true:=by
 have bl:∀f∈p,∃q,?wD=?gD/\?vA=q/\f.toNat<xs.length/\q.length-1+1=p.length-1:=fun f hf=>by
  obtain⟨q,e,l⟩:=h.bel f hf;obtain⟨hlt,_⟩:=?bC e;exact⟨q,e,by rw[qa3,e];rfl,hlt,l⟩
 show Z8 xs (?R (Fe p))=true;rw[Q5];have hl:(Fe p).length=p.length:=by simp[Fe]
 rw[hl];simp only[qc4,qq6];refine⟨⟨?_,?_⟩,?_⟩
 . rcases h.cnt with e | e | e | e<;>rw[e]<;>rfl
 . rw[qe5];intro d hd;obtain⟨f,hf,rfl⟩:=?bZ hd;obtain⟨q,e,eq,hlt,l⟩:=bl f hf;have h0:=h.low f hf;show(?m (0<=f)&&?m (f<?cR)&&?m (C6 ?IL=C6 p.length-1))=true;rw[eq,Vr,Vr];simp only[qc4,qm7];omega
 . by_cases h3:3<=p.length
   . right
     have e0:(Fe p).map vZ=p:=by
      unfold Fe;rw[qi9];exact ?O1 p
     rw[e0];ext VP;have hj:=?hQ hj;have hi:=?h7;unfold Uu;rw[qm7];have ej:p[j]?=?c p[j]:=?f9;have ei:p[i]?=?ZV p:=?fU;obtain⟨q,e1,e2,_⟩:=bl p[j] (?BS);obtain⟨r,e3,e4,_⟩:=bl (p[i]' ?eV) (?fH);have key:=h.agr h3 i j _ _ q r hi ej ei e1 e3;rw[show ?pL=p[j] by rw[qa3,ej];rfl,show ?pU=p[i]' ?e by rw[qa3,ei];rfl,e2,e4,qa3,qa3,key]
   . left;rw[Vr];simp;omega
theorem Ow[?e2][?jH][?jF](h:q∈?uD):(?vU)/\∃c,c<?h9/\q.2=v c:=by
 obtain⟨h1,h2⟩:=X5 h;have h3:=Ef h1;obtain⟨c,hc,e⟩:=?bZ h2;exact⟨⟨h3.1,h3.2.1⟩,c,?hQ hc,?hA⟩
theorem Mp{xs:Aq}[?jC](k:Int)(v:?n):Du ?o6:=by
 refine⟨?_,?tB,?tB⟩
 . have:=gZ (sp:=?bX) (ns:=?k1) (?AV) (?BG);unfold nd at this ⊢;exact this.sublist (qt6 _ (qq3 ..))
 . have:=(?fI hq).2;ext jD
 . have:=?MI;omega
theorem Uz.ok[?CC]:?yV:=by
 ext CF;intro p hp;obtain⟨i,hi,rfl⟩:=?lB;have hi:=?h7;have hz:z<=40:=?EF;refine⟨fun g hg=>(Ow hg).1,?_,fun g hg q hq=>?_⟩
 . show Du ?mL;split
   . exact Du.nil
   . exact ?iN
 . obtain⟨_,c,hc,e⟩:=Ow hg
   replace hq:q∈?mL:=hq
   split at hq
   . cases hq
   . rename_i e0
     have hik:?j2:=by
      by_cases hh:?j2
      . exact hh
      . unfold Lat.numAt at e0;rw[?j hh]at e0;exact ?W rfl e0
     obtain⟨_,d,hd,e2⟩:=Ow hq
     have h1:(?dV z l.1 G i c).natAbs<2 ^ (?S2+z):=JM fun j hj=>by
      rw[qb1,qe1];exact ?a0S ?T4 bl.bG
     have h2:=bl.fin.br.1 i d (qb3 hik bl.kw) hd;rw[e,e2];exact Rs h1 h2 (by unfold bookF;omega)
theorem B6.kd[?aW](s:∀c o,?DO):?JW
 | [],[],h=>h
 | ?mK,?f1,h=>by
   obtain⟨⟨t,a,b,c,e,h1,h2,h3,h4,ne⟩,h5⟩:=h;exact⟨⟨t,a,b,c,e,s _ _ h1 ?K3,s _ _ h2 ?iM,s _ _ h3 ?iM,s _ _ h4 ?iM,ne⟩,B6.kd s h5⟩
 | [],?bF,h=>h.elim
 | ?bF,[],h=>h.elim
theorem Uz.len[?CC]:ps.length<=40:=by
 ext CF;unfold Cg;rw[qa4,qo8];exact ?EF
def mW(H:Hp)(d:Addr):Hp:=fun a=>if a=d then none else H a
theorem Lx{H:Hp}{c d:Addr}(h:c≠d):mW H d c=H c:=?aA
theorem KR{H:Hp}{d:Addr}:mW H d d=none:=?I
theorem MV{H:Hp}{d:Addr}:?K ?U2 H:=fun c o e=>by
 by_cases h:c=d
 . rw[h,KR]at e;cases e
 . rwa [Lx h]at e
theorem qT{O H:Hp}{d:Addr}(s:?K O H)(h:O d=none):?K O ?U2:=fun c o e=>by
 rw[Lx (Ao e h)];exact s c o e
structure eE[?i](C:Addr)(B:Hp)(p:Addr)(xs:Aq)[?c2]:Prop where
 ob:Ex6 fun dx P Lv Lf lu wu=>B p=?c (?b5 C dx [(?DG,?f P),(?ES,?f Lv),("lifts",?f Lf)])/\D6 (LT K B (?f P) xs) (B Lv=?WO lu) (Oz B lu (ls.map Rc)) (B Lf=?WO wu) (Fk ?q6 B wu (?mD))
 sh:?dZ
 len:?m9
 n4:?SV
 lev:∀(k:Nat) ps,?a07 k->Uz xs ?Z ps
 tie:?M6
def KA[?i]:Sp:=fun vs H Q _=>Ju fun ?eL ?a0=>B4 ?o1 (LT K H v xs) ?eW (?AO)
def Yi[?i]:Sp:=fun vs H Q _=>?Y0 (∀H',?J->?aU)
def Tl[?i]:Sp:=fun vs H Q _=>?Y0 (?pQ)
def EV[?i](C:Addr):Sp:=fun vs H Q _=>Ex6 fun(p dx a:Addr) ?hH ?cP ?a0=>lO (vs=[?a8,?y]) (?X0 C []) (H a=?bR) (Reps K H0 us (xs.map tI)) (?nL) (?XW a) (?qR) ?lN ?eW (∀(B:Hp) [?c2] (H':Hp),?sF->?yP->?K H0 B->?K B H'->B a=none->?aU)
def Oy(O H:Hp)(v:V)(p:Bi):Prop:=∃t a b c,v=?hX/\(O t=none/\O a=none/\O b=none/\?m3)/\?a03 t/\H a=?c (.dK (cK p.2.1))/\?a1S b ?g1/\?a1S c ?eB
theorem Oy.kd[?jJ][?jK](h:?r5)[?VA]:Oy O H' v p:=by
 obtain⟨t,a,b,c,e,⟨n1,n2,n3,n4⟩,h1,h2,h3,h4⟩:=h;exact⟨t,a,b,c,e,⟨n1,n2,n3,n4⟩,s _ _ n1 h1 ?K3,s _ _ n2 h2 ?iM,s _ _ n3 h3 ?iM,s _ _ n4 h4 ?iM⟩
def Cy(O H:Hp)[?jI][?cH]:Prop:=?I9/\∀(i:Nat) v p,?i4->?nS->?r5
theorem Cy.kd[?jJ][?e1][?tZ][?VA]:?UH :=
 ⟨h.1,fun i v p e1 e2=>(?BI).kd s⟩
theorem Cy.same[?jJ][?e1][?tZ][?d7]:?UH:=h.kd fun c o _ e _=>s c o e
theorem Oy.put{O H:Hp}[?dA]{us ws:?p}[?jK](h:?r5)[?n3]:Oy O (?Y2 D ws) v p:=h.kd fun c o _ e ho=>by
 rw[Ai ?c6]
 . exact e
 . rw[z,hD]at e;cases e;rcases ho with⟨_,q⟩|⟨_,q⟩<;>cases q
theorem Cy.put{O H:Hp}[?dA]{us ws vs:?p}[?fF][?tZ][?n3]:Cy O (?Y2 D ws) vs ps:=⟨h.1,fun i v p e1 e2=>(?BI).put hD⟩
theorem Cy.snoc{O H:Hp}[?e1][?jK][?tZ](hp:?r5):Cy O H ?FV (ps++[p]):=by
 have h0:=h.1;refine⟨?xN,fun i u q e1 e2=>?_⟩;by_cases hi:?BX
 . rw[?v1]at e1;rw[?rN]at e2;exact ?a20 u q
 . ext V9
   ext VE;have q1:u=v:=?PJ
   have q2:q=p:=?OP
   subst q1 q2;exact hp
theorem Oz.at{H:Hp}[?d8][?fD]{k:Nat}(h:?N0)(hk:k<ls.length):∃a us ps,vs[k]?=?AY/\?a07 k/\?xF:=by
 have h0:=h.1;have e1:vs[k]?=?c (vs[k]' ?eV):=?fU;have e2:ls[k]?=?c ls[k]:=qa0 hk;obtain⟨a,us,e,h1,h2⟩:=h.2 k _ _ e1 e2;exact⟨a,us,_,by rw[e1,e],e2,h1,h2⟩
def AV[?i](C:Addr):Sp:=?a27 4 (∀[?cH] [?D2] (H':Hp),?a07 k.toNat->?aX->?J->?A9->Cy H H' us (?h2)->?bQ)
universe Hb
namespace L2
open PySem PySem.Spec PyProof.Rows PySem.SeqAt
section
variable{X:Cx}
theorem dX:Fu X ?ML (fun xs H Q=>∃a vs,xs=[?y,.ty ?w1]/\H a=?c ?SZ/\?AO):=by
 ext UY;obtain⟨_,its,_,ob,ho,hc,_⟩:=(?Z1 ?SZ)
 exact PySem.IsiPair.tuple_tuple ho hc ?I8
theorem DX:Fu X ?ML (fun xs H Q=>∃a vs,xs=[?y,.ty ?pG]/\H a=?qA/\?AO):=by
 ext UY;obtain⟨_,its,m,_,ho⟩:=(?Z1 ?PI)
 exact PySem.IsiPair.list_list ho rfl ?I8
universe e9
universe L2
namespace Hb
open PySem L2
def m8(ms:Ms)[?d5]:?kW
 | 0=>ms
 | j+1=>?GS
def R8[?d6]:?kW
 | 0=>[]
 | i+1=>m8 ?iJ ?sM ?oI ?k4
theorem GB(ms:Ms)(k v j:Int):Ay ?gV j=if j=k then v else ?kZ:=by
 unfold Ay;rw[bC];split<;>rfl
theorem KS(ms:Ms)[?n8](n k:Int):∀j,Ay ?gH k=?T+?o9*n
 | 0=>by simp[m8,F2]
 | j+1=>by
   have ih:=KS ms fs n k j;show Ay (?GS) k=?T+(if fs.getD j 0=k then ?oQ-2*(?lQ) else ?o9)*n;rw[GB];by_cases h:fs.getD j 0=k
   . rw[?y0,?b2,h,ih];unfold Xv;by_cases h2:?lQ=0
     . rw[?fV,h2];rw[show ?oQ-2*0=?oQ by omega,qt3];omega
     . have h3:?lQ=1:=O9m
       rw[?e6,h3];rw[show ?oQ-2*1=?o9+-1 by omega,qt3];omega
   . rw[?TE,?aA];exact ih
theorem II[?aL][?d5]:∀j,nd ?gH
 | 0=>h
 | j+1=>iJ (II h fs n j) _ _
theorem cW(ms:Ms)[?d5]:∀j,(?J2).length<=?a1V j
 | 0=>?aS
 | j+1=>by
   have h1:=cW ms fs n j;have h2:=cX ?gH ?mP (?s7+Xv n j);show ?XB ?AI _;omega
theorem iI[?d6]:∀i,nd ?iJ
 | 0=>qr5
 | i+1=>?a12 II iI
theorem CV[?j7](ms:Ms):∀i,(?UG).length<=4*i
 | 0=>?aS
 | i+1=>by
   have h1:=CV h4 ms i;have h2:=cW ?iJ ?sM ?oI ?k4
   have h3:?k4<=4:=by
    rw[qa3];cases e:xs[(ms.getD i (0,0)).1.toNat]? with
    | none=>show ?oN<=4;omega
    | some x=>exact ?FX
   show(m8 _ _ _ _).length<=_;omega
theorem EI[?d6](y:Int):∀i,Ay ?iJ y=Ay ?eY y
 | 0=>rfl
 | i+1=>by
   show Ay (m8 ?iJ _ _ _) y=Ay (Ho ?eY _ _ _) y;rw[KS,BJ,EI xs ms y i]
structure j8[?aV](ms:Ms):Prop where
 len:?LZ
 part:∀q∈ms,(?vU)/\C6 (?yJ).length=k/\q.2≠0
structure Ac2[?aV](p:Bi):Prop where
 lp:j8 xs k p.2.1
 gg:j8 xs k ?g1
 fl:j8 xs ?a2 ?eB
 no:p.1=0->?eB=[]
 nn:?mZ
 n1:p.1≠1
def Av2(p q:Bi):Prop:=(p.1=0->q.1=0)/\(0<p.1->q.1%p.1=0)
structure lN[?aV][?cH]:Prop where
 one:∀p∈ps,Ac2 xs k p
 ord:ps.Pairwise Av2
def K6[?cH](i:Nat):Int:=(?r6::?nW fun p=>p.1).getD i 1
theorem Zu[?fF]{i:Nat}{p:Bi}(h:?nS):K6 ps ?x=p.1:=by
 unfold K6;rw[List.getD_cons_succ,qa3,qa9,h];rfl
theorem qK[?fF](h:ps.Pairwise Av2)(hn:∀p∈ps,?mZ){i:Nat}{p:Bi}(e:?nS):0<=?rV/\(?rV=0->p.1=0)/\(0<?rV->p.1%?rV=0):=by
 cases i with
 | zero =>
   have e0:K6 ps 0=1:=rfl;rw[e0];exact⟨?c0,(?vY),fun _=>Int.emod_one _⟩
 | succ i =>
   obtain⟨hl,rfl⟩:=?bC e;have e1:ps[i]?=?ZV ps:=?fU;rw[Zu e1];have:=qr4.mp h i ?x O9m hl O9m;exact⟨hn _ (?fH),?hO,this.2⟩
def Pm[?b6]:Sp:=fun vs H Q _=>Ju fun ?dR ?cZ=>B4 ?pZ ?m4 ?hD (mK H ?m7 Q)
def To[?i]:Sp:=fun vs H Q _=>Th fun ?cM ?a0 ?cZ=>Lk ?lA ?aY ?mV (?ZN 100) ?oD ((∀q∈ms,?vU)) (mK H (?WX ms ?k3) Q)
def Pn[?i]:Sp:=fun vs H Q _=>Xr fun ?cM ?a0 ?Z ?cZ=>D6 (?Z0 ?bH) ?aY ?mV (j8 xs k ms) (?pQ)
def AS[?b6]:Sp:=fun vs H Q _=>Th fun(g c:Addr) (gs cs:Ms)=>D6 (vs=[?f g,?d0]) (?a1S g gs) (?a1S c cs) ((∀t∈cs,?cA (Ay gs t.1) t.2)) (?XV (?d (wF (Ay gs) cs)))
def Tm[?i]:Sp:=fun vs H Q _=>XQ fun(a D:Addr) ?a0 ?Z ?hH ?xB (O:Hp)=>Hq (?Z0 ?eG) ?aY (H D=?bR) (?L4) (lN xs k ps) (?pQ)
theorem JI{xs:Aq}[?jC](k:Int)(v:?n):j8 xs k ?o6 :=
 ⟨(?Q6).len,fun q hq=>⟨?MI,(Ef (X5 hq).1).2.2,(?Q6).z q hq⟩⟩
theorem j8.nil[?aV]:j8 xs k []:=⟨?a4,fun q hq=>by cases hq⟩
def kM[?aM](k0 z:Nat):?U Nat:=(?hS z).filter (?YP ?m (?dS≠1))
theorem UN[?tL]:Rc (?vT)=(?u5).map (?X3 Ea k):=by
 unfold Rc Cg kM;rw[List.filter_map];rfl
theorem mQ[?c4]{k0 z i:Nat}(h:i∈?u5):i<z/\?dS≠1:=by
 have:=?fI h;exact⟨?hQ ?hO,qd2 this.2⟩
theorem QL[?aM](k0 z:Nat):(?u5).Pairwise (·<·):=?S6 _ List.pairwise_lt_range
theorem pU[?c4]{k0 i:Nat}(h:?JJ):0<=?dS:=by
 unfold Lat.numAt;split
 . rename_i q
   exact Int.le_of_lt (h i q)
 . exact Int.le_refl 0
theorem UM[?c4]{k0 i j:Nat}(h:?JJ)(ch:?FC)(hij:i<j):(?dS=0->?OB=0)/\(0<?dS->?OB%?dS=0):=by
 unfold Lat.numAt;by_cases hj:j<k0
 . have hi:?j2:=O9m
   have:=h i hi;rw[?q hj,?iH];exact⟨?gQ,fun _=>Int.emod_eq_zero_of_dvd (ch i j hi hij hj)⟩
 . rw[?zM];exact⟨?v5,fun _=>Int.zero_emod _⟩
theorem Uz.holes[?CC]:lN xs k (?h2):=by
 ext CF;rw[UN];refine⟨?iP,?_⟩
 . obtain⟨i,hi,rfl⟩:=?lB;obtain⟨hz,h1⟩:=mQ hi;refine⟨?A2,?A2,?_,?AX,pU ?EX,h1⟩
   . show j8 xs ?a2 ?mL;split
     . exact j8.nil _ _
     . exact ?A2
   . show ?mL=[]
     exact ?bB
 . rw[qr9];exact(QL f k0 z).imp fun hij=>UM ?EX bl.ch hij
theorem Du.refl{ms:Ms}(h:?m8):sameC ms ms=true:=AX h.n h.n h.z h.z ?v5
universe Hb
namespace L2
open PySem PySem.Spec PyProof.Rows
universe L2
namespace Hb
open PySem L2
def nL(ns:Aq):D:=?l (?lK fun n=>?l (Fe n))
section
variable[?i]
universe e9
universe Hb
namespace Lat
open Hb
section
variable[?W3][?c4]
theorem turn_sum(il:?wL)(c d:Nat):?QR=Al (fun a=>G a c*L a d) z:=by
 have e1:?QR=Al (fun i=>Al (fun a=>Al (fun b=>?jR*P i a*(G a c*L b d)) z) z) z:=Ak fun i _=>by
  show ?ZF G c*Al (fun j=>PB i j*L j d) z=_;rw[←En];refine ?Y4 ?_;rw[←Bg];exact Ak fun b _=>?dF
 rw[e1,Cl];refine Ak ?vK;rw[Cl]
 have e2:∀b,b<z->Al (fun i=>?jR*P i a*(G a c*L b d)) z=(?GF)*(G a c*L b d):=fun b hb=>by
  rw[En]
  congr 1
  exact il b a hb ha
 rw[Ak e2,?aP ha fun b _ ne=>by rw[?mF,qg3],?I,qd5]
theorem gauge_edge[?CJ](ir:?yT){i c:Nat}(hi:i<z)(hc:c<w):?QC=numAt f k i*QB i c:=by
 have e1:∀c',?h5=?ZR ?QQ:=fun c'=>by
  have:?h5=Al (fun a=>?ZR (G j a*?uO)) m:=Ak fun a _=>by
   show ?ZF G a*?uO=_;rw[←En];exact Ak fun j _=>?qW
  rw[this,Cl];exact Ak fun j _=>by rw[Bg];rfl
 have e2:∀y,y<w->?yU=?KI:=fun y hy=>by
  rw[←dg.diag i y hi hy];unfold Pf
  have:?yU=Al (fun c'=>?ZR (?QQ*?rZ)) w:=Ak fun c' _=>by
   rw[e1,←En];exact Ak fun j _=>?qW
  rw[this,Cl];exact Ak fun j _=>?v8
 have e3:?QC=?rJ:=by
  have h1:?rJ=?PK:=by
   have:?rJ=Al (fun y=>?XU (?r4*?rZ)) w:=Ak fun y _=>by
    rw[←En];exact Ak fun c' _=>?dF
   rw[this,Cl];exact Ak fun c' _=>?v8
  rw[h1];have h2:∀c',c'<w->?JF=?S4:=fun c' hc'=>ir c c' hc hc'
  have h3:?PK=?XU ?S4:=Ak fun c' hc'=>by rw[h2 c' hc']
  rw[h3,?aP hc fun b _ ne=>by rw[?j (?XG ne),qd9],?I,qm4]
 have e4:?rJ=Al (fun y=>(?KI)*?r4) w:=Ak fun y hy=>by rw[e2 y hy]
 rw[e3,e4];ext CS;by_cases hw:i<w
 . rw[?aP hw fun b _ ne=>by ext CN,?I];unfold numAt;by_cases hk:i<k
   . rw[?q hk]
   . rw[?j hk,dg.zero i ?e hi hw]
 . rw[?bO fun y hy=>by rw[?Q,qg3]];unfold numAt;rw[?Q,qg3]
universe e9
universe Lat
namespace Hb
open PySem L2
theorem Q4[?e2][?gK]{j:Nat}(hj:j<?h9):Ay ?r1 (?q9)=u j:=by
 have hu:?YZ ?HX ?gF:=?AV
 have hb:=oY hu (Hi xs k);have h1:((?bX).map (Ay (Dz (?qJ (?HX)))))[j]?=?c (u j):=by rw[hb,cR hj]
 rw[qa9,?f9]at h1;rw[qa3,?f9];exact qd7 h1
theorem Hl[?e2][?gK]{p:Int}(h:p ∉ ?bX):Ay ?r1 p=0:=by
 refine F3 fun hm=>h ?_;obtain⟨r,hr,rfl⟩:=?pN;exact(X5 hr).1
theorem EJ[?G]:∀(ns ms:Ms),?bA->?WV ?gA=?a6+?WV ns
 | [],ms,_=>by show ?a6=?a6+0;rw[qf1]
 | p::ns,ms,h=>by
   show ?WV (?B3)=_;rw[EJ φ ns _ (IJ h p.1 p.2),oN φ h,E6,qk9]
theorem LP[?G](n:Int)(ms:Ms):?WV (Ph n ms)=n*?a6:=by
 unfold Ph;split
 . rename_i h;rw[h,qg3];rfl
 . induction ms with
   | nil=>rw[qr0,U2,qd9]
   | cons p ms ih =>
     rw[qc5,E6,E6,ih];show n*p.2*?gS+_=_
     grind
def qH[?G](q:Int)(p:Bi):Int:=if ?jP then Ay ?g1 q*?WV ?eB else 0
def zB[?G](q:Int)[?cH]:Int:=(?nW (qH φ q)).sum
theorem mZ{n:Nat}[?cJ][?W1](hg:?vW)[?n7][?G] :
 ?WV (?a1D ?QG)=?lD+(if g.1=q then g.2 else 0)*?RV:=by
 unfold lift1;rw[qa3,qo9];by_cases e:g.1=q
 . rw[?q (?FM),?q (by rw[h.1];omega),?bB];show ?WV (F1 _ _)=_;have h1:=h.at ?A5;rw[EJ φ _ _ h1.n,LP,e]
 . rw[?Q,?cY,qg3,qf1,←qa3]
theorem bJ{n:Nat}{fl:Ms}(hf:Du fl)[?n7][?G]:∀(gs:Ms) [?cJ],?dH->nd gs->(∀g∈gs,?vW) →
 ?WV (?a1D ?IG)=?lD+Ay gs q*?RV
 | [],lf,_,_,_=>by rw[List.foldl_nil,Nh,qg3,qf1]
 | g::gs,lf,h,hn,hk=>by
   have hn2:nd gs:=(?NC).2;have hg:g.1 ∉ gs.map (·.1):=(?NC).1;rw[qq2,bJ hf hq φ gs (h.lift1 hf g) hn2 ?AR,mZ h hf g (hk g ?f6) hq,Ep];by_cases e:g.1=q
   . have e2:Ay gs q=0:=F3 (e▸hg);rw[?bB,?bB,e2];grind
   . rw[?cY,?cY];grind
theorem MY{n:Nat}[?cJ]{p:Bi}(h:?dH)(hp:?nP)(hn:?uE)[?n7][?G] :
 ?WV ((Qf lf p).getD ?cS [])=?lD+?E8:=by
 unfold Qf qH;split
 . exact bJ hp.fl hq φ _ h hn hp.gk
 . rw[qf1]
theorem BI{n:Nat}[?n7][?G]:∀[?cH] [?cJ],?dH->(?RN) →
 ?WV (?a1D ?zB)=?lD+?IS
 | [],lf,_,_=>by show _=_+0;rw[qf1];rfl
 | ?f1,lf,h,hp=>by
   have h1:=?GV;show ?WV (?a1D ?JI)=_;rw[BI hq φ ps (h.part h1.1) fun x hx=>hp x (qb9 _ hx),MY h h1.1 h1.2 hq];show _=_+(?E8+?IS)
   rw[qk9]
theorem mY{n:Nat}[?fD](hok:?LN)[?n7][?G] :
 ?WV ((Cc n ls).getD ?cS [])=?IX:=by
 have:∀[?c2] [?cG],?dH->(?LN)->?WV (?a1D ?yW)=?lD+?IX:=fun ls=>by
  induction ls with
  | nil=>intro lf _ _;show _=_+0;rw[qf1];rfl
  | cons ps ls ih =>
    intro lf h hk;have h1:=?I2;rw[qq2,ih _ (h.parts fun p hp=>(h1 p hp).1) ?AR,BI hq φ ps h h1,qc5,ql7,qk9]
 unfold Cc;rw[?V ls _ (?FI n) hok]
 have e:?WV ((?oJ n ([]:Ms)).getD ?cS [])=0:=by
  rw[qa3,qs8];split<;>rfl
 rw[e,ql6]
theorem OL[?G][?aL][?d5]:∀j,?WV ?gH=?a6+n*Al (fun i=>?S5) j
 | 0=>by show ?H3;rw[qd9,qf1]
 | j+1=>by
   show ?WV (?AI)=_;rw[oM φ (II h fs n j),OL φ h fs n j];show _=_+n*(Al _ j+?QB)
   have e:Xv n j=n*?dD:=by
    unfold Xv sg;have:?lQ=0\/?lQ=1:=O9m
    rcases this with z | z
    . rw[?b8,z];simp
    . ext CT
   rw[e,show ?s7+n*?dD-?s7=n*?dD by omega,Int.mul_add,qf2];omega
theorem BX[?G](xs:Aq)(p:Int):?WV (Dz (R8 xs ?cX 1))=?F9:=by
 rw[HC];show ?WV (m8 [] (?d1) 1 ?oZ)=_;rw[OL φ (show nd ([]:Ms) from qr5),U2,ql6,qd5];rfl
theorem Ni[?nA]{j:Nat}(hj:?N1):l.getD j 0∈l:=by rw[qa3,?f9];exact ?BS
theorem iY{xs:Aq}{φ ψ:?mQ}{p:Int}(h:∀f∈?d1,φ f=ψ f):?F9=?a1T ψ:=by
 unfold face;refine Ak ?hE;rw[h _ (Ni hj)]
theorem gD{xs:Aq}(φ:Nat->?mQ)(u:?n)(p:Int)(m:Nat):?a1T (fun y=>Al (fun a=>u a*φ a y) m)=Al (fun a=>u a*?a1T (φ a)) m:=by
 unfold face
 have:∀n,?E6=Al (fun a=>u a*?YI (fun j=>?dD*?zY)) m:=fun n=>by
  have e:?E6=?YI (fun j=>?a25 (?dD*?zY) m):=Ak fun j _=>by
   rw[←Bg];exact ?Y4 ?dF
  rw[e,Cl];exact ?Y4 ?v8
 exact ?V _
theorem qA[?nA](h:l.Nodup){i j:Nat}(hi:?Q7)(hj:?N1)(e:l[i]=l[j]):i=j:=by
 have h1:=qr4.mp h;rcases ql2 i j with q | q | q
 . exact ?W e (h1 i j hi hj q)
 . exact q
 . exact ?W ?hA (h1 j i hj hi q)
theorem Qm[?e2][?gK](y:Int):Ay ?r1 y=Al (fun a=>u a*KW (?uC a 0) y) ?c5:=by
 by_cases h:y∈?bX
 . obtain⟨j,hj,ej⟩:=qg4 h;have e1:?q9=y:=by rw[qa3,?f9,ej];rfl
   rw[←e1,Q4 hj,Lat.sumN_one (j:=j) hj fun a ha ne=>?_]
   . unfold KW;rw[?I,qm4]
   . unfold KW;rw[?j (?a21 ne ?_),qd9];have h1:=Hi xs k;rw[qa3,qa3,qa0 ha,?f9]at z;exact qA h1 ha hj ?bK
 . rw[Hl h]
   symm
   refine ?lT ?vK;unfold KW;rw[?j (?a21 h ?_),qd9];rw[z,qa3,qa0 ha];exact qe0 ha
theorem GD[?e2][?gK]{c:Nat}:?aR xs (Ay (?a0Y ?hU u)) (?uC c 0)=Al (fun a=>u a*Pi xs k a c) (?nC):=by
 have e:Ay (?a0Y ?hU u)=fun y=>Al (fun a=>u a*KW (?pP a 0) y) (?nC):=funext fun y=>Qm y;rw[e,gD];exact Ak fun a _=>by rw[kW];rfl
theorem sumN_cut[?aM](a:Nat):∀b,?NX=?BC+Al (?YP f (a+i)) b
 | 0=>by show ?BC=?BC+0;rw[qf1]
 | b+1=>by
   show ?NX+f (a+b)=_+(_+f (a+b))
   rw[?rQ f a b,qk9]
def vL:Nat->(?n)->Int
 | 0,_=>0
 | j+1,f=>f j
theorem lU{xs:Aq}{n:Nat}[?C2](t:?OC) :
 ∀{k:Nat},k<n->∀{c d:Nat},c<?k0->d<?k0 →
 ?II+(?GP)=if c=d then 1 else 0:=fun {k} hk {c d} hc hd=>by
 have b:=(t.lv k hk).1;rw[Lat.turn_sum (P:=(lp k).1) (PB:=(lp k).2) b.fin.il];cases k with
 | zero =>
   obtain⟨e1,e2,e3⟩:=t.z0;show _+0=_;rw[e1,e2,e3,qf1];have:=(Lat.Lev.first (?q3) (Pi xs 0)).du c d hc hd;rw[←this];exact Ak fun a _=>by unfold Lat.one;congr 1<;>(ext tX)
 | succ j =>
   obtain⟨e1,e2,e3⟩:=?FG;have bj:=(?AC).1;have ir:=?SY c d hc hd;have kw:=bj.kw;show _+?DN=_;rw[←ir];show _=Al (fun i=>?jQ*?lP i d) (?hF);rw[e1,e2,e3,show ?hF=?bG+(?hF-?bG) by omega,sumN_cut,Nat.add_sub_cancel_left,qx3]
theorem Kn(φ:?n):∀z,(?NE φ).sum=Al φ z
 | 0=>rfl
 | z+1=>by
   rw[qj7,qb4,List.sum_append,Kn φ z];show _+(φ z+0)=Al φ z+φ z;rw[qf1]
theorem cP(φ:Bi->Int):∀ps:?cC,((?h2).map φ).sum+(?nW fun b=>if b.1=1 then φ b else 0).sum=(?nW φ).sum
 | []=>rfl
 | ?f1=>by
   have ih:=cP φ ps;unfold Rc at ih ⊢;rw[qm0,qc5,qc5,ql7,ql7];by_cases h:?jP
   . rw[?ZY ?j,?b2];omega
   . rw[?ZY ?q,?aA,qc5,ql7];omega
theorem eN[?e5](F:?yK):∀(l:?dQ) (k:Nat) (a:α),l[k]?=?c a->(∀j b,l[j]?=?c b->j≠k->F b=0)->?pC=F a
 | [],k,a,e,_=>?PP
 | x::l,0,a,e,h=>by
   have e:x=a:=qd7 e;subst e;rw[qc5,ql7]
   have:?pC=0:=by
    have:∀(l:?dQ),(∀b∈l,F b=0)->?pC=0:=fun l=>by
     induction l with
     | nil=>intro _;rfl
     | cons y l ih=>intro hl;rw[qc5,ql7,hl y ?f6,ih fun b hb=>hl b (qb9 _ hb)];rfl
    refine ?V l ?gZ;obtain⟨j,hj⟩:=qg0 hb;exact h ?bP b hj O9m
   rw[this,qf1]
 | x::l,k+1,a,e,h=>by
   rw[qc5,ql7,h 0 x rfl ?e,eN F l k a e fun j b hj ne=>h ?bP b hj ?e,ql6]
theorem AA[?e5]{F G:?yK}:∀{l:?dQ},(∀b∈l,F b=G b)->?pC=(l.map G).sum:=fun {l} h=>by rw[qq1 h]
theorem RQ[?cE]{k:Int}[?jH](e:Int):Ay (Dh xs ?o6) e=Ay (?a0Y ?hU (?U4 ?c5 (Pi xs k) v)) e:=by
 have hl:?YZ ?k1 ?gF:=?AV
 by_cases he:e∈?nY
 . obtain⟨x,hx,ex⟩:=qg4 he;have e1:?pP x 0=e:=by rw[qa3,qa0 hx,ex];rfl
   rw[←e1,Q4 (k:=k-1) hx,e1];show Ay (Dh xs (Dz (?qJ (?k1)))) e=_;rw[rQ hl];unfold Lat.mulV;refine Ak ?hE;unfold Pi;rw[e1,show(?k1).getD j 0=v j by rw[qa3,cR hj];rfl]
 . rw[Hl he];refine F3 fun hm=>he ?_;obtain⟨r,hr,rfl⟩:=?pN
   have hcb:=e9 hs (k:=k) (ms:=?uD) fun q hq=>by
    have:=Ef (X5 hq).1;exact⟨?hO,?rT,?KW⟩
   ext VI;have h2:(?U9&&?m (C6 (?B r.1.toNat []).length=k-1))=true:=h1.1;ext VC
theorem aD[?e2]{u v:?n}(h:∀a,a<?h9->u a=v a)(e:Int):Ay ?r1 e=Ay ?o6 e:=by
 rw[Qm,Qm];exact Ak fun a ha=>by rw[h a ha]
def mC(p q:Int)(b:Bi):Int:=?T6*Ay b.2.1 q
theorem IX[?cE]{k:Int}{z k0:Nat}{L G:Lat.Mat}[?j5](b:?TL){i:Nat}(h1:?dS=1)(q:Int) :
 wF (?a2B q) (?LR).2.2.2=Ay (?LR).2.1 q:=by
 have hi:?j2:=by
  by_cases h:?j2
  . exact h
  . unfold Lat.numAt at h1;rw[?aA]at h1;omega
 have hf:f i=1:=by unfold Lat.numAt at h1;rwa [?iH]at h1
 show wF _ ?mL=Ay (?SW) q;rw[?Q,←Lb,RQ hs,?zX];refine aD (?vK) q;rw[b.lev.filling (QH hs k) b.fin.dg b.fin.il hi a ha,hf,qd5]
def eG(e:Ms)(q:Int)(b:Bi):Int:=if 0<b.1 then wF ?UM e / b.1*Ay ?wK q else 0
section
variable{xs:Aq}[?C2]
theorem Wg.lev(t:?QU){j:Nat}[?fF](e:?a07 j):j<4/\ps=?iZ/\?T1:=by
 ext V4;exact⟨hj,rfl,_,_,_,_,_,_,_,h1,rfl⟩
theorem Wg.ok[?fB]:∀ps∈ls,∀p∈ps,?EE/\?uE:=fun ps hps p hp=>by
 obtain⟨j,hj⟩:=qg0 hps;obtain⟨_,e,lv⟩:=?PE;refine⟨lv.ok E3 p hp,?_⟩;rw[e]at hp;obtain⟨i,_,rfl⟩:=?lB;exact ?v9
theorem CU[?fB][?tP][?G] :
 ?WV ?hL=?a1Z φ:=by
 have h3:=?o7;rw[mY (t.ok E3) h3.1,eN (zB φ p) ls k _ (?uW).2 fun j b hj ne=>?_]
 . unfold zB Cg;rw[qi9,←Kn];rfl
 . obtain⟨hj4,rfl,_⟩:=?PE;unfold zB;rw[AA (G:=?h6) ?gZ]
   . have:∀(l:?cC),(l.map fun _=>?dT).sum=0:=fun l=>by
      induction l with
      | nil=>rfl
      | cons a l ih=>rw[qc5,ql7,ih];rfl
     exact ?V _
   . obtain⟨i,_,rfl⟩:=?bZ hb;unfold qH;have:Ay ?p9 p=0:=Hl (?a21 ne (by have:=(Ef z).2.2;rw[h3.2.2]at this;omega));rw[this,qg3];split<;>rfl
theorem Zs[?fB](p:Int):Du ?hL:=by
 have:∀[?c2] [?cG],Gx ?cK lf->(∀ps∈ls,?yV)->Gx ?cK (?yW):=fun ls=>by
  induction ls with
  | nil=>intro lf h _;exact h
  | cons ps ls ih=>intro lf h hk;exact ih _ (h.parts (?I2)) ?AR
 exact(?V ls _ (?FI _) fun ps hps p hp=>(t.ok E3 ps hps p hp).1).at _
theorem cH(hs:?dZ)[?fB][?tP](q:Int) :
 ?YH q =
  ?qS:=by
 rw[Lb,?D8];have h1:=cP ?kX (?nH)
 have h2:(?U5 ?kX).sum=?qS:=by
  unfold Cg;rw[qi9,←Kn];rfl
 have h3:(?U5 (?a22 mC p)).sum=?a1Z (?a2B q):=by
  unfold Cg;rw[qi9,Kn];refine ?uG;show(if (Ea _ _ _ _ _ _ _ _ _ i).1=1 then _ else _)=qH _ _ _;unfold qH mC;by_cases h:(?kU).1=1
  . rw[?b2,?b2,IX hs (?uW).1 h]
  . rw[?aA,?aA]
 rw[←h2,←h1,h3,qx3]
theorem ND(hs:?dZ){k p:Int}(hp:?yA):∀f∈?d1,f∈?nY:=fun f hf=>by
 obtain⟨h0,h1,h2⟩:=?o7;ext C7
 ext CD
 rw[ey]at hf h2;have ft:=?FQ;obtain⟨g,eg,lg⟩:=?Q2;have hl:=?RL;have hlt:=?KH;rw[qc8]at hlt;have e2:?wD=?c g:=by rw[qk8]at eg;split at eg<;>first | exact eg | cases eg
 refine X0 hl O9m ?_;rw[qa3,e2];show C6 g.length=k-1;have hc:=ft.cnt;unfold lev at lg;rw[←h2];unfold C6;ext tX
theorem Y4(hs:?dZ)[?fB]{j:Nat}(hk:j+1<4){c:Nat}(hc:c<?hF)(q:Int) :
 ?wT+(?vG (?a1C [(?cL,1)])).sum =
  ?RY:=by
 have hp:?cL∈?PB:=Ni hc;have bj:=(?AC).1
 have hw:∀i,i<?iX->?TW=?tH:=fun i hi=>by
  ext UR
 have pos:∀i,?dU->0<?tI:=bj.fin.dg.pos;have num:∀i,?bI=if ?dU then ?tI else 0:=fun i=>rfl
 have kz:=bj.kz
 have h1:?wT =
  Al (fun i=>(if ?kN then Ay (?s5).2.2.2 q else 0)*?TW) ?f7:=by
  rw[←gD (?YP Ay ?p9)];refine iY fun f hf=>?_;have hl:=ND hs hp f hf;rw[?HC]at hl;have hlo:=Zs t E3 f;rw[←AN q hlo.n,CU t E3 ?e hl];refine ?uG;unfold qH;show(if ?kN then _ else _)=_;by_cases h:?kN
  . rw[?b2,?b2,AN q,qf3];show nd ?pV;ext j9;exact ?v9
  . rw[?aA,?aA,qg3]
 have h2:=cP (?a1C [(?cL,1)]) (?iZ)
 have fl:∀i,i<?iX->eG (?WX [(?cL,1)] 1) q (?s5)=?IC:=fun i hi=>by
  unfold eG;rw[BX,hw i hi];show(if 0<?bI then ?RX*?N4 else 0)=_;rw[num];by_cases h:?dU
  . have:=pos i h;rw[?b2,?q ?V,?b2,?Q,?J0]
  . rw[?aA,?aA,?Q]
 have h3:(?OG (?a1C [(?cL,1)])).sum=Al (fun i=>?IC) ?f7:=by
  unfold Cg;rw[qi9,Kn];exact Ak fl
 have h4:(?OG (?a22 eG (?WX [(?cL,1)] 1))).sum=?wT:=by
  rw[h1];unfold Cg;rw[qi9,Kn];refine ?z8;show(if ?kN then eG _ q (?s5) else 0)=_;by_cases h:?kN
  . have hik:?dU:=by
     by_cases q:?dU
     . exact q
     . rw[num,?cU]at h;omega
    rw[?b2,?b2,fl i hi,?q hik,hw i hi,h,qd5,qf3];show ?s8*_=?N4*_;ext j9
  . rw[?aA,?aA,qg3]
 rw[qx3,←h4,h2,h3,show ?iX=?bG+?DZ by omega,sumN_cut];have h5:Al (fun i=>if ?bG+i<?bG then ?x6 (?bG+i) c*Ay (?a0Y ?qT (?lP (?bG+i))) q else 0) ?DZ=0:=?lT fun i _=>?j O9m;rw[h5,qf1];exact Ak fun i hi=>?iH
theorem FD(hs:?dZ)[?fB][?tP](q:Int) :
 ?YH q +
  ?T3+(?a29 k)=?BY:=by
 rw[cH hs t E3 hk hp];ext V2
 have hf:?T3+(?a29 k) =
  ?BU:=by
  cases k with
  | zero =>
    show _+0=0;rw[qf1];have hl:=(?o7).2.2
    have:?oZ=0:=by
     have h0:=?o7;ext C7
     ext CD
     rw[ey]at hl ⊢;have hc:=(?FQ).cnt;unfold C6 at hl;split at hl<;>omega
    unfold face;rw[this];rfl
  | succ j =>
    have:=Y4 hs t E3 hk (c:=c) hc q;have e2:?cL=p:=e1;rw[e2]at this;ext bN
 rw[qk9,hf];by_cases hq:q∈?q0
 . obtain⟨d,hd,ed⟩:=qg4 hq;have e3:?UN d 0=q:=by rw[qa3,qa0 hd,ed];rfl
   have h1:?qS=?II:=Ak fun i _=>by
    show ?TR*?OU=_;rw[←e1,←e3,Q4 hc,Q4 hd]
   have h2:(?BU)=?GP:=by
    cases k with
    | zero=>rfl
    | succ j =>
      refine ?uG;have e4:?OW d 0=q:=e3;rw[←e4,Q4 (k:=?s2) hd]
   rw[h1,h2,lU t hk hc hd];by_cases z:c=d
   . subst z;rw[?I,?q (e3.symm.trans e1)]
   . rw[?c9,?j fun y=>z (qA (Hi xs k) hc hd (by rw[ec,ed,y]))]
 . have h1:?qS=0:=?lT fun i _=>by
    show _*?OU=0;rw[Hl hq,qd9]
   have h2:(?BU)=0:=by
    cases k with
    | zero=>rfl
    | succ j =>
      refine ?lT ?zH;have:?s8=0:=Hl hq;rw[this,qd9]
   rw[h1,h2,?j fun(y:q=p)=>hq (by rw[y];exact hp)];rfl
universe e9
def eV[?i](C:Addr):Sp:=?a27 ?cR (?a2D (?qV k.toNat []))
def FU(ms:Ms)(n:Int)(ns:Ms):?kW
 | 0=>ms
 | i+1=>?ZX ?iO
theorem PZ[?aL](n:Int)(ns:Ms):∀i,nd ?f8
 | 0=>h
 | i+1=>iJ (PZ h n ns i) _ _
theorem IP(ms:Ms)(n:Int)(ns:Ms):∀i,?XB ?NR ?K1
 | 0=>?aS
 | i+1=>by
   have h1:=IP ms n ns i;have h2:=?ZX cX;show ?XB ?AI _;omega
theorem IV(ms:Ms)(n:Int){ns:Ms}(hn:?j0)(k:Int):∀i,?GY->Ay ?f8 k=?T+n*?MK
 | 0,_=>by
   show ?T=?T+n*?sZ;rw[Nh,qd9,qf1]
 | i+1,hi=>by
   have ih:=IV ms n hn k i O9m;have e:?k9=?fJ:=?HP
   show Ay (?iO ?f8 _ _) k=_
   have hnt:nd ?pD:=by
    unfold nd at hn ⊢;rw[qo3];exact hn.sublist (List.take_sublist ..)
   rw[e,GB];by_cases z:k=?rC
   . subst z;rw[?I,IV ms n hn ?rC i ?e]
     have h1:Ay (ns.take i) ?rC=0:=F3 (by
      unfold nd at hnt;rw[qe7,?h8,qb4,qs0]at hnt;intro hm;exact hnt.2.2 _ hm _ (qk1.mpr rfl) rfl)
     have h2:Ay ?pD ?rC=ns[i].2:=by
      unfold Ay;rw[Et hnt (p:=?fJ) (qb0 (i:=i) (by rw[qk8,?gB,?h8]))];rfl
     rw[h1,h2,qd9,qf1]
   . rw[?c9,ih]
     have h3:Ay ?pD k=?MK:=by
      rw[qe7,?h8]
      have:∀(l:Ms),Ay (l++[?fJ]) k=Ay l k:=fun l=>by
       induction l with
       | nil=>show Ay (?fJ::[]) k=?sZ;rw[Ep,?j ?NM]
       | cons a l ih=>rw[List.cons_append,Ep,Ep,ih]
      exact ?V _
     rw[h3]
def ES[?b6]:Sp:=fun vs H Q _=>Xr fun ?cM ?cO ?R0=>gY (vs=[?y,?eC,?bH]) ?m4 (?a1S b ns) (?bA) (?j0) (?ZN 400) (ns.length<=400) ((∀q∈ns,?cA n q.2)) (mK H (?ZQ n) Q)
theorem IM[?jL](hm:?bA)(hn:?j0)(n k:Int):Ay (?ZQ n) k=?T+n*Ay ns k:=by
 have:=IV ms n hn k ?g6 ?r;rw[qd0]at this;rw[iV (PZ hm n ns _),this]
theorem Vq(n:Nat)[?c2]:(Cc n ls).length=n:=by
 have h1:∀(fl gs:Ms) [?cG],?YZ ?IG lf.length:=fun fl gs=>by
  induction gs with
  | nil=>intro lf;rfl
  | cons g gs ih=>intro lf;rw[qq2,ih];unfold lift1;rw[qi2]
 have h2:∀[?cH] [?cG],?YZ ?zB lf.length:=fun ps=>by
  induction ps with
  | nil=>intro lf;rfl
  | cons p ps ih =>
    intro lf;show ?YZ ?JI _;rw[ih];unfold Qf;split
    . exact h1 _ _ _
    . rfl
 have h3:∀[?c2] [?cG],?YZ ?yW lf.length:=fun ls=>by
  induction ls with
  | nil=>intro lf;rfl
  | cons p ps ih=>intro lf;rw[qq2,ih,h2]
 unfold Cc;rw[h3,qk7]
theorem qL{ms:Ms}{k v x:Int}(h:x∈(?lE).map (·.1)):x∈?X (·.1)\/x=k:=by
 by_cases e:x=k
 . exact ?k e
 . refine ?g ?_;obtain⟨p,hp,rfl⟩:=?s0;unfold putI at hp;split at hp
   . ext CM;refine ?rS ⟨q,hq,?_⟩;split<;>rfl
   . ext CV
     . exact qj4 h
     . exact ?W (by rw[qk1.mp h]) e
theorem fX{ms:Ms}(h:?lM){k v:Int}(h0:0<=k)(h1:k<40):SQ ?gV:=fun p hp=>by
 rcases qL (qj4 hp) with h2 | h2
 . obtain⟨q,hq,e⟩:=?bZ h2;rw[←e];exact h q hq
 . rw[h2];exact⟨h0,h1⟩
theorem qO{ms:Ms}(h:?lM)(n:Int){ns:Ms}(hn:SQ ns):∀i,?GY->SQ ?f8
 | 0,_=>h
 | i+1,hi=>by
   have e:?k9∈ns:=?SG
   exact fX (qO h n hn i O9m) (hn _ e).1 (hn _ e).2
theorem rJ[?aL](hk:?lM):Du ?m7:=by
 refine⟨?_,?iP,fun p hp=>hk p ?w0⟩
 . unfold nd at h ⊢;exact h.sublist (qt6 _ qq3)
 . have:=(?fI hp).2;ext jD
theorem Du.lp[?jL](h1:?m8)(h2:Du ns)(n:Int):Du (?ZQ n):=rJ (PZ h1.n n ns _) (qO h1.k n h2.k _ ?r)
theorem KP{ms:Ms}(h:?lM)[?jG](hf:∀f∈fs,?L6)(n:Int):∀j,j<=fs.length->SQ ?gH
 | 0,_=>h
 | j+1,hj=>fX (KP h hf n j O9m) (?OJ).1 (?OJ).2
theorem KO{xs:Aq}(hx:∀i,∀f∈?wP,?L6)(ms:Ms):∀i,SQ ?iJ
 | 0=>?OS
 | i+1=>KP (KO hx ms i) (hx _) _ _ ?r
theorem EW[?cE][?jC]:∀i,∀f∈?wP,0<=f/\f<?cR/\f<40:=fun i f hf=>by
 rw[qa3]at hf;cases e:xs[i]? with
 | none=>rw[e]at hf;cases hf
 | some y =>
   rw[e]at hf;have ft:=hs i y e;obtain⟨g,eg,_⟩:=?Q2;have hl:=?RL;have:=?KH;rw[qc8]at this;omega
theorem VU[?cE][?jC](ms:Ms):Du (?WX ms ?k3) :=
 rJ (iI xs ms _) (KO (fun i f hf=>let h:=EW hs E3 i f hf;⟨h.1,h.2.2⟩) ms _)
theorem OH[?d6](q:Int):Ay (?WX ms ?k3) q=Ay ?gI q:=by
 rw[iV (iI xs ms _),EI];rfl
theorem pR[?jG]{e:Int}(h:e ∉ fs):Rb fs e=0:=by
 unfold Rb;refine kF ?_;rw[qw7];intro i hi;have:=?h7;simp only[qm7];exact ?a21 h (z▸Ni ?V)
def Ds(xs:Aq)(p:Int):Ms:=?WX ?cX 1
theorem DL[?cE][?jC](p:Int):Du ?iA:=VU hs E3 ?cX
theorem gE[?cE][?jC](h4:?q1){p:Int}{t:?aG}(h:t∈Ds xs p):t.2.natAbs<?p7/\0<=t.1/\t.1<?cR:=by
 have e1:?M9=t.2:=by unfold Ay;rw[Et (?S3).n h];rfl
 have e2:?M9=?UB:=by
  show Ay (Dz (R8 xs ?cX [(p,?r6)].length)) t.1=_;rw[OH,Lb,E6,U2];show ?r6*?UB+0=_;omega
 refine⟨by rw[←e1,e2];exact ?SH,?_⟩;have hz:=(?S3).z t h;rw[←e1,e2]at hz
 have hm:?IF:=by
  by_cases q:?IF
  . exact q
  . exact ?W (pR q) hz
 have:=EW hs E3 ?eA t.1 hm;exact ?HH
structure JP(xs:Aq)[?D3][?cG](p:Int)(k:Nat):Prop where
 p0:?gY
 p1:?gN
 k4:k<4
 lv:?l8=?Z
 lfl:lf.length=xs.length
 lfo:∀q:Int,Du (?eX ?cS [])
 lfr:j8 xs ?oF (?eX ?eA [])
 r:∀b∈?Q9,Du b.2.1/\Du ?rH/\∀t∈b.2.1,?cA (?T6) t.2
 f:∀j,j+1=k->∀b∈?u9,(Du ?rH/\Du ?wK)/\0<=b.1/\b.1.natAbs<?yL/\(b.1=0->?x2=0)/\(0<b.1->?x2%b.1=0/\∀t∈?wK,?cA (?x2 / b.1) t.2)
 sum:∀q,Ay (Dh xs (?eX ?eA [])) q+((?Q9).map ?kX).sum+wF (?YQ ?eX) ?iA+vL k (fun j=>((?u9).map (eG ?iA q)).sum)=?BY
def Lz(O H:Hp)(hd:Addr)[?D3]:Prop:=Em fun ?hH=>E5 (H hd=?bR) (?a0A hl.length) (∀(j:Nat) v ps,us[j]?=?b3->?nK->Ju fun ?BV ?yD=>E5 (v=?eG) (?a1J D uk) (Cy O H uk ps))
theorem Lz.same[?jJ]{hd:Addr}[?jB](h:?v2)[?d7]:Lz O H' hd hl:=by
 obtain⟨us,e1,e2,e3⟩:=h;refine⟨us,?a00 e1,e2,fun j v ps h1 h2=>?_⟩;obtain⟨D,uk,e4,e5,e6⟩:=e3 j v ps h1 h2;exact⟨D,uk,e4,?a00 e5,e6.same s⟩
theorem Lz.at{O H:Hp}{hd:Addr}[?jB](h:?v2){j:Nat}(hj:j<hl.length):Th fun ?hH ?BV ?yD ?xB=>Hq (H hd=?bR) (us[j]?=?c (?eG)) (?a1J D uk) (Cy O H uk ps) (?nK) (?u9=ps):=by
 obtain⟨us,e1,e2,e3⟩:=h;obtain⟨v,hv⟩:∃v,us[j]?=?b3:=?T7
 obtain⟨ps,hps⟩:∃ps,?nK:=(?ZD ?f9)
 obtain⟨D,uk,rfl,e5,e6⟩:=e3 j v ps hv hps;exact⟨us,D,uk,ps,e1,hv,e5,e6,hps,by rw[qa3,hps];rfl⟩
def aT[?i]:Sp:=fun vs H Q _=>GX fun(a hd la:Addr) (p:Int) ?a0 (k:Nat) (hl:?eF) (lf:?f2) (wu:?p) (O O':Hp)=>XS (vs=[?y,?mM,?f hd,?f la]) ?aY ?lN ?eW ?oD (hl.length=4) (?v2) (?a1J la wu) (Fk O' H wu lf) (JP xs hl lf p k) (∀[?jE] (m:Ms),?aX->?J->?dN=?WL m->Du m->(∀q,Ay m q=?BY)->?bQ)
theorem Yd[?e5](F:?yK){l:?dQ}{i:Nat}{b:α}(h:?FR):((l.take ?x).map F).sum=((l.take i).map F).sum+F b:=by
 rw[qe7,h,qb4,List.sum_append];show _+(F b+0)=_;rw[qf1]
theorem SY[?G]{l:Ms}{i:Nat}{b:?aG}(h:?FR):?WV (l.take ?x)=?WV (l.take i)+b.2*φ b.1:=by
 unfold wF;exact Yd _ h
theorem Cy.out{O H:Hp}{us:?p}[?fF](h:?L4):Cy ?q6 H us ps :=
 ⟨h.1,fun i v p e1 e2=>by
  obtain⟨t,a,b,c,e,_,h1⟩:=?BI;exact⟨t,a,b,c,e,⟨rfl,rfl,rfl,rfl⟩,h1⟩⟩
def oF(H:Hp)(E:Addr)[?jI][?D3]:Prop:=vs.length=hl.length/\∀(j:Nat) v ps,vs[j]?=?b3->?nK->Ju fun ?BV ?yD=>B4 (v=?eG) (D≠E) (?a1J D uk) (?KK)
theorem oF.same[?aW]{E:Addr}[?d8][?jB][?u1][?d7]:oF H' E vs hl :=
 ⟨h.1,fun j v ps h1 h2=>by
  ext VR;exact⟨D,uk,e1,e2,?a00 e3,e4.same s⟩⟩
theorem oF.put{H:Hp}{E:Addr}{vs ws us:?p}[?jB][?u1](hE:H E=?bR):oF (?Y2 E ws) E vs hl :=
 ⟨h.1,fun j v ps h1 h2=>by
  ext VR;exact⟨D,uk,e1,e2,by rw[Ai e2];exact e3,e4.put hE⟩⟩
theorem oF.snoc{H:Hp}{E D:Addr}{vs uk:?p}[?jB][?fF][?u1](h2:D≠E)(h3:?a1J D uk)(h4:?KK):oF H E (vs++[?eG]) (hl++[ps]):=by
 have h0:=h.1;refine⟨?xN,fun j v qs e1 e2=>?_⟩;by_cases hj:j<vs.length
 . rw[qc6 hj]at e1;rw[?rN]at e2;exact h.2 j v qs e1 e2
 . rw[qd3 ?e]at e1;rw[qd3 ?e]at e2
   have hz:j-vs.length=0:=by
    have:=?NJ;simp at this;omega
   rw[hz]at e1;rw[←h0,hz]at e2;cases e1;cases e2;exact⟨D,uk,rfl,h2,h3,h4⟩
theorem oF.at{H:Hp}{E:Addr}[?d8][?jB][?u1](hE:H E=?qA):Lz ?q6 H E hl :=
 ⟨vs,hE,h.1,fun j v ps h1 h2=>by
  obtain⟨D,uk,e1,_,e3,e4⟩:=?G0;exact⟨D,uk,e1,e3,e4⟩⟩
section
variable{xs:Aq}[?C2]
theorem QG[?fB][?tP]:j8 xs ?oF ?hL:=by
 have ok:=Zs t E3 p;refine⟨ok.len,?tB⟩;have e1:Ay ?hL q.1=q.2:=by unfold Ay;rw[Et ok.n hq];rfl
 have hz:=ok.z q hq
 have hm:?DQ:=by
  by_cases h:?DQ
  . exact h
  . refine ?W ?_ hz;rw[←e1,←AN q.1 ok.n,?D8];refine ?lT ?zH;unfold qH;split
    . have:wF ?S8 (?kU).2.2.2=0:=by
       show wF ?S8 (if ?kA ?wQ ?z1 i=0 then [] else ?a0Y ?oF ((rp k).1 i))=0;split
       . rfl
       . rw[AN q.1 ?v9];exact Hl h
      rw[this,qd9]
    . rfl
 have:=Ef hm;exact⟨?HH,?KW,hz⟩
theorem QM:∀z,z<=40->kB z<=8000:=?c0
theorem jL(hs:?dZ)[?fB]{p:Int}(hp0:?gY)(hp1:?gN):∃k,JP xs (ls.map Rc) (?mD) p k:=by
 have h4:=AW hs;ext C7
 ext CD
 have hy4:=h4 y (qb0 hy);have hlv:?l8=((?y5:Nat):Int):=by rw[ey];unfold C6;ext cF
 have hk:?y5<4:=O9m
 generalize ?y5=k at hlv hk;have hp:p∈?q0:=X0 hp0 hp1 hlv
 have ge:∀j,j<4->?R5=Rc (?iZ):=fun j hj=>by
  rw[qa3,qa9,(?KA).2];rfl
 have pcl:∀j:Int,Do xs j<=40:=fun j=>?TI;ext V2
 refine⟨k,hp0,hp1,hk,hlv,Vq _ _,Zs t E3,QG t E3 hk hp,?gZ,fun j hj b hb=>?_,fun q=>?_⟩
 . rw[ge k hk]at hb;ext VD;have bl:=(?uW).1;refine⟨?iN,?iN,?QA⟩
   have bits:∀(P M:Lat.Mat),?dL ?aZ ?aZ ?bY P->?dL ?aZ ?iL ?bY M->∀c,c<?k0->(?dV ?aZ P M i c).natAbs<?AT:=fun P M h1 h2 c hc=>JM fun j hj=>by
    rw[qb1,qe1];exact ?a0S h1 h2
   obtain⟨_,d,hd,e⟩:=Ow hu;have hz:zs k<=40:=qa6 bl.zm (pcl _)
   have b1:(?TR).natAbs<?AT:=by
    rw[←e1,Q4 hc];exact bits _ _ ?T4 bl.bG c hc
   have b2:u.2.natAbs<?AT:=by rw[e];exact bits _ _ bl.fin.bl.2 bl.bL d hd
   exact Rs b1 b2 (by unfold bookF;omega)
 . subst hj;have hj4:j<4:=O9m
   rw[ge j hj4]at hb;ext VD;have bj:=(t.lv j hj4).1;have e2:?cL=p:=e1
   have hw:wF (Ay ?p9) ?iA=?tH:=by
    unfold Ds;rw[BX,←e2];ext UR
   have hnn:0<=?bI:=pU ?MN;have hz:?iX<=40:=qa6 bj.zm (pcl _);refine⟨⟨?iN,?_⟩,hnn,?_,?NS,?NS⟩
   . show Du ?pV;split
     . exact Du.nil
     . exact ?iN
   . show(?bI).natAbs<?yL;by_cases h:?dU
     . have h1:?bI=?tI:=?b2;have h2:=bj.fin.dg.le h;have h3:=QM ?f7 hz;have h4:?OT<=?UA:=qe9 O9m h3;have h5:?UA<?yL:=qg6 O9m O9m;have h6:=?MN i h;rw[h1];have:(?tI).natAbs<=?OT:=O9m
       exact qb8 (qa6 ?V h4) h5
     . rw[?DS];exact Nat.two_pow_pos _
   . have h0:?bI=0:=h0;rw[hw,h0,qg3]
   . have h0:0<?bI:=h0;rw[hw];show ?tH%?bI=0/\∀u∈?pV,?cA (?RX) u.2;rw[?J0,?Q];refine⟨Int.mul_emod_right _ _,?QA⟩
     have hik:?dU:=by
      by_cases h:?dU
      . exact h
      . rw[?DS]at h0;omega
     obtain⟨_,d,hd,e⟩:=Ow hu;have hiw:i<?hF:=qb3 hik bj.kw;rw[e];exact g7 (bj.fin.br.2 i c hiw hc) (bj.fin.br.1 i d hiw hd)
 . have:=FD hs t E3 hk hp q;rw[ge k hk];unfold Ds;rw[BX];cases k with
   | zero=>ext bN
   | succ j =>
     show _+((?R5).map _).sum=_;rw[ge j ?e];ext bN
universe e9
theorem Ii{S:St}{p0:?a5}[?D](k:∀H,p0 H->?GH):?WG (σ=S/\p0 H):=by
 rintro _ H ⟨rfl,h0⟩;exact k H h0
theorem jT{S:St}{p0 p1:?a5}[?D](k:∀H,p0 H->p1 H->?GH):?WG (E5 (σ=S) (p0 H) (p1 H)):=by
 rintro _ H ⟨rfl,h0,h1⟩;exact k H h0 h1
theorem vY[?c3]{p0:?g8}[?D](k:∀x0 H,?hW->?hR):?WG (Em fun x0=>?m1/\p0 x0 H):=by
 rintro _ H ⟨x0,rfl,h0⟩;exact k x0 H h0
theorem Ti[?c3]{p0 p1:?g8}[?D](k:∀x0 H,?hW->?mX->?hR):?WG (?a1Q ?hT ?jZ):=by
 rintro _ H ⟨x0,rfl,h0,h1⟩;exact k x0 H h0 h1
theorem O0[?c3]{p0 p1 p2:?g8}[?D](k:∀x0 H,?hW->?mX->?r0->?hR):?WG (Em fun x0=>B4 ?f4 ?hT ?jZ ?oT):=by
 rintro _ H ⟨x0,rfl,h0,h1,h2⟩;exact k x0 H h0 h1 h2
theorem VX[?c3]{p0 p1 p2 p3:?g8}[?D](k:∀x0 H,?hW->?mX->?r0->?B9->?hR):?WG (Em fun x0=>D6 ?f4 ?hT ?jZ ?oT (p3 x0 H)):=by
 rintro _ H ⟨x0,rfl,h0,h1,h2,h3⟩;exact k x0 H h0 h1 h2 h3
theorem Ai2[?c3]{p0 p1 p2 p3 p4:?g8}[?D](k:∀x0 H,?hW->?mX->?r0->?B9->?L2->?hR):?WG (Em fun x0=>Hq ?f4 ?hT ?jZ ?oT (p3 x0 H) ?D7):=by
 rintro _ H ⟨x0,rfl,h0,h1,h2,h3,h4⟩;exact k x0 H h0 h1 h2 h3 h4
theorem JS[?c3]{p0 p1 p2 p3 p4 p5:?g8}[?D](k:∀x0 H,?hW->?mX->?r0->?B9->?L2->p5  x0 H->?hR):?WG (Em fun x0=>Lk ?f4 ?hT ?jZ ?oT (p3 x0 H) ?D7 (p5 x0 H)):=by
 rintro _ H ⟨x0,rfl,h0,h1,h2,h3,h4,h5⟩;exact k x0 H h0 h1 h2 h3 h4 h5
theorem OJ[?d4]{p0:?q4}[?D](k:∀x0 x1 H,?sR->?sU):?WG (Ju fun x0 x1=>?mY/\?qY):=by
 rintro _ H ⟨x0,x1,rfl,h0⟩;exact k x0 x1 H h0
theorem vX[?d4]{p0 p1:?q4}[?D](k:∀x0 x1 H,?sR->?BB->?sU):?WG (Ju fun x0 x1=>E5 ?hP (?qY) (?a1E p1)):=by
 rintro _ H ⟨x0,x1,rfl,h0,h1⟩;exact k x0 x1 H h0 h1
theorem VW[?d4]{p0 p1 p2 p3:?q4}[?D](k:∀x0 x1 H,?sR->?BB->?O0->?RZ->?sU):?WG (Ju fun x0 x1=>D6 ?hP (?qY) (?a1E p1) (?a1E p2) (?a1E p3)):=by
 rintro _ H ⟨x0,x1,rfl,h0,h1,h2,h3⟩;exact k x0 x1 H h0 h1 h2 h3
theorem Ai1[?d4]{p0 p1 p2 p3 p4 p5 p6:?q4}[?D](k:∀x0 x1 H,?sR->?BB->?O0->?RZ->?ZJ p4->?ZJ p5->?ZJ p6->?sU):?WG (Ju fun x0 x1=>EE ?hP (?qY) (?a1E p1) (?a1E p2) (?a1E p3) (?a1E p4) (?a1E p5) (?a1E p6)):=by
 rintro _ H ⟨x0,x1,rfl,h0,h1,h2,h3,h4,h5,h6⟩;exact k x0 x1 H h0 h1 h2 h3 h4 h5 h6
theorem vW[?d3]{p0 p1:?kJ}[?D](k:∀x0 x1 x2 H,?l6->?lS->?jW):?WG (Nv fun x0 x1 x2=>E5 ?dI ?kC ?mG):=by
 rintro _ H ⟨x0,x1,x2,rfl,h0,h1⟩;exact k x0 x1 x2 H h0 h1
theorem oJ[?d3]{p0 p1 p2:?kJ}[?D](k:∀x0 x1 x2 H,?l6->?lS->?nG->?jW):?WG (Nv fun x0 x1 x2=>B4 ?dI ?kC ?mG ?tA):=by
 rintro _ H ⟨x0,x1,x2,rfl,h0,h1,h2⟩;exact k x0 x1 x2 H h0 h1 h2
theorem Ai0[?d3]{p0 p1 p2 p3:?kJ}[?D](k:∀x0 x1 x2 H,?l6->?lS->?nG->?yI->?jW):?WG (Nv fun x0 x1 x2=>D6 ?dI ?kC ?mG ?tA (?a19 p3)):=by
 rintro _ H ⟨x0,x1,x2,rfl,h0,h1,h2,h3⟩;exact k x0 x1 x2 H h0 h1 h2 h3
theorem OI[?d3]{p0 p1 p2 p3 p4:?kJ}[?D](k:∀x0 x1 x2 H,?l6->?lS->?nG->?yI->?J4->?jW):?WG (Nv fun x0 x1 x2=>Hq ?dI ?kC ?mG ?tA (?a19 p3) (?a19 p4)):=by
 rintro _ H ⟨x0,x1,x2,rfl,h0,h1,h2,h3,h4⟩;exact k x0 x1 x2 H h0 h1 h2 h3 h4
theorem Ah9[?d3]{p0 p1 p2 p3 p4 p5:?kJ}[?D](k:∀x0 x1 x2 H,?l6->?lS->?nG->?yI->?J4->?Y6 p5->?jW):?WG (Nv fun x0 x1 x2=>Lk ?dI ?kC ?mG ?tA (?a19 p3) (?a19 p4) (?a19 p5)):=by
 rintro _ H ⟨x0,x1,x2,rfl,h0,h1,h2,h3,h4,h5⟩;exact k x0 x1 x2 H h0 h1 h2 h3 h4 h5
theorem Ah8[?n2]{p0:?B5}[?D](k:∀x0 x1 x2 x3 H,?yQ->?BA):?WG (Th fun x0 x1 x2 x3=>?jM/\?v3):=by
 rintro _ H ⟨x0,x1,x2,x3,rfl,h0⟩;exact k x0 x1 x2 x3 H h0
theorem Ah7[?n2]{p0 p1 p2:?B5}[?D](k:∀x0 x1 x2 x3 H,?yQ->?OM->?P4->?BA):?WG (Th fun x0 x1 x2 x3=>B4 (?jM) (?v3) (?a18 p1) (?a18 p2)):=by
 rintro _ H ⟨x0,x1,x2,x3,rfl,h0,h1,h2⟩;exact k x0 x1 x2 x3 H h0 h1 h2
theorem Ah6[?n2]{p0 p1 p2 p3 p4:?B5}[?D](k:∀x0 x1 x2 x3 H,?yQ->?OM->?P4->?XX p3->?XX p4->?BA):?WG (Th fun x0 x1 x2 x3=>Hq (?jM) (?v3) (?a18 p1) (?a18 p2) (?a18 p3) (?a18 p4)):=by
 rintro _ H ⟨x0,x1,x2,x3,rfl,h0,h1,h2,h3,h4⟩;exact ?a08 H
theorem Ah5[?n1]{p0 p1 p2:?Z7 ?a5}[?D](k:∀x0 x1 x2 x3 x4 H,?KZ->?I6->?D5->?GZ):?WG (Xr fun x0 x1 x2 x3 x4=>B4 ?n0 (?a16 p0) (?a16 p1) (?a16 p2)):=by
 rintro _ H ⟨x0,x1,x2,x3,x4,rfl,h0,h1,h2⟩;exact k x0 x1 x2 x3 x4 H h0 h1 h2
theorem Ah4[?n1]{p0 p1 p2 p3 p4:?Z7 ?a5}[?D](k:∀x0 x1 x2 x3 x4 H,?KZ->?I6->?D5->?XF p3->?XF p4->?GZ):?WG (Xr fun x0 x1 x2 x3 x4=>Hq ?n0 (?a16 p0) (?a16 p1) (?a16 p2) (?a16 p3) (?a16 p4)):=by
 rintro _ H ⟨x0,x1,x2,x3,x4,rfl,h0,h1,h2,h3,h4⟩;exact k x0 x1 x2 x3 x4 H h0 h1 h2 h3 h4
theorem Ah3{A0 A1 A2 A3 A4 A5:Type}{S:A0->A1->A2->A3->A4->A5->St}{p0 p1 p2 p3:A0->A1->A2->A3->A4->A5->?a5}[?D](k:∀x0 x1 x2 x3 x4 x5 H,?XN p0->?XN p1->?XN p2->?XN p3->let s:=(?K4);?d2):?WG (Ex6 fun x0 x1 x2 x3 x4 x5=>D6 (σ=?K4) (?a1B p0) (?a1B p1) (?a1B p2) (?a1B p3)):=by
 rintro _ H ⟨x0,x1,x2,x3,x4,x5,rfl,h0,h1,h2,h3⟩;exact ?ZO H
theorem Ah2[?C8]{p0 p1 p2:?XD ?a5}[?D](k:∀x0 x1 x2 x3 x4 x5 x6 x7 H,?KV->?R9->?I5->?KL):?WG (xQ fun x0 x1 x2 x3 x4 x5 x6 x7=>B4 (σ=?m5) (?a13 p0) (?a13 p1) (?a13 p2)):=by
 rintro _ H ⟨x0,x1,x2,x3,x4,x5,x6,x7,rfl,h0,h1,h2⟩;exact k x0 x1 x2 x3 x4 x5 x6 x7 H h0 h1 h2
theorem vV[?C8]{p0 p1 p2 p3 p4 p5 p6 p7:?XD ?a5}[?D](k:∀x0 x1 x2 x3 x4 x5 x6 x7 H,?KV->?R9->?I5->?WI p3->?WI p4->?WI p5->?WI p6->?WI p7->?KL):?WG (xQ fun x0 x1 x2 x3 x4 x5 x6 x7=>gY (σ=?m5) (?a13 p0) (?a13 p1) (?a13 p2) (?a13 p3) (?a13 p4) (?a13 p5) (?a13 p6) (?a13 p7)):=by
 rintro _ H ⟨x0,x1,x2,x3,x4,x5,x6,x7,rfl,h0,h1,h2,h3,h4,h5,h6,h7⟩;exact k x0 x1 x2 x3 x4 x5 x6 x7 H h0 h1 h2 h3 h4 h5 h6 h7
theorem Ah1{A0 A1 A2 A3 A4 A5 A6 A7 A8:Type}{S:?Z6 St}{p0 p1 p2:?Z6 ?a5}[?D](k:∀x0 x1 x2 x3 x4 x5 x6 x7 x8 H,?XL p0->?XL p1->?XL p2->let s:=(?RH);?d2):?WG (Ex9 fun x0 x1 x2 x3 x4 x5 x6 x7 x8=>B4 (σ=?RH) (?a17 p0 H) (?a17 p1 H) (?a17 p2 H)):=by
 rintro _ H ⟨x0,x1,x2,x3,x4,x5,x6,x7,x8,rfl,h0,h1,h2⟩;exact k x0 x1 x2 x3 x4 x5 x6 x7 x8 H h0 h1 h2
theorem xW{A0 A1 A2 A3 A4 A5 A6 A7 A8 A9:Type}{S:?YJ St}{p0 p1 p2 p3:?YJ ?a5}[?D](k:∀x0 x1 x2 x3 x4 x5 x6 x7 x8 x9 H,?WS p0->?WS p1->?WS p2->?WS p3->let s:=(?PL);?d2):∀σ H,(NZ fun x0 x1 x2 x3 x4 x5 x6 x7 x8 x9=>D6 (σ=?PL) (?WE p0 H) (?WE p1 H) (?WE p2 H) (?WE p3 H))->?C:=by
 rintro _ H ⟨x0,x1,x2,x3,x4,x5,x6,x7,x8,x9,rfl,h0,h1,h2,h3⟩;exact k x0 x1 x2 x3 x4 x5 x6 x7 x8 x9 H h0 h1 h2 h3
theorem Kb{S:St}[?D]{H0:Hp}(k:let s:=S;G s H0):?WG (σ=S/\H0=H):=by
 rintro _ _ ⟨rfl,rfl⟩;exact k
theorem VY[?c3]{p0:?g8}[?D]{H0:Hp}(k:∀x0,p0  x0 H0->let s:=(S x0);G s H0):?WG (?a1Q (H0=H) ?hT):=by
 rintro _ _ ⟨x0,rfl,rfl,h0⟩;exact k x0 h0
theorem ex2{A0 A1:Type}{p:?lX}{G:Prop}(k:∀x0 x1,p x0 x1->G)(h:∃x0 x1,p x0 x1):G:=h.elim fun x0 h=>h.elim fun x1 h=>k x0 x1 h
theorem Bj3{p0 p1 p2 G:Prop}(k:p0->p1->p2->G)(h:p0/\p1/\p2):G:=k h.1 h.2.1 h.2.2
section
variable{g:TG}{x:V}{t1 t2 t3 t4 t5 t6 t7 t8 t9 oA WA t12 t13 t14:TS}{D:Ends}{σ:St}{H:Hp}
theorem UT{tc:St->?a1U Hp (?G3)}{k:?G3}(h:let k':=k;tc σ H k'):tc σ H k:=h
theorem letG1(h:let D':=D;?ZT D'):?ZT D:=h
theorem let2(h:let D':=D;let u2:TS:=t2;?SR):At t1 t2 D σ H:=h
theorem letG2(h:let D':=D;let u2:TS:=t2;?O5):?WM t2:=h
theorem let3(h:let D':=D;let u3:TS:=t3;?SD):At t1 (At t2 t3) D σ H:=h
theorem letG3(h:let D':=D;let u3:TS:=t3;?EC):?WM (At t2 t3):=h
theorem let4(h:let D':=D;let u4:TS:=t4;?MU):At t1 (?a1K t4) D σ H:=h
theorem letG4(h:let D':=D;let u4:TS:=t4;?UJ):?WM (?a1K t4):=h
theorem let5(h:let D':=D;let u5:TS:=t5;?EV):?WH t5:=h
theorem letG5(h:let D':=D;let u5:TS:=t5;?IH):?WM (?a1K (At t4 t5)):=h
theorem let6(h:let D':=D;let u6:TS:=t6;?GD):?WH (At t5 t6):=h
theorem letG6(h:let D':=D;let u6:TS:=t6;let u5:TS:=?TU;?IH):?WM (?a1K (At t4 (At t5 t6))):=h
theorem let7(h:let D':=D;let u7:TS:=t7;?MD):?WH (At t5 (At t6 t7)):=h
theorem let8(h:let D':=D;let u8:TS:=t8;?N3):?WH (?a1A t8):=h
theorem let9(h:let D':=D;let u9:TS:=t9;?PN):?WH (?a1A (At t8 t9)):=h
theorem let10(h:let D':=D;let oO:TS:=oA;?E7):?WH (?a1A (At t8 (At t9 oA))):=h
theorem let12(h:let D':=D;let u12:TS:=t12;let XX:TS:=At WA u12;let oO:TS:=At oA XX;?E7):?WH (?a1A (At t8 (At t9 (At oA (At WA t12))))):=h
universe e9
universe Hb
local macro_rules|`(tactic|infer_instance)=>`(tactic|first|(refine Hb.let12 ?_;intro _ _ _ _ _ _ _ _ _ _ _ _)|(refine Hb.let10 ?_;intro _ _ _ _ _ _ _ _ _ _)|(refine Hb.let9 ?_;intro _ _ _ _ _ _ _ _ _)|(refine Hb.let8 ?_;intro _ _ _ _ _ _ _ _)|(refine Hb.let7 ?_;intro _ _ _ _ _ _ _)|(refine Hb.let6 ?_;intro _ _ _ _ _ _)|(refine Hb.let5 ?_;intro _ _ _ _ _)|(refine Hb.let4 ?_;intro _ _ _ _)|(refine Hb.let3 ?_;intro _ _ _)|(refine Hb.let2 ?_;intro _ _))
local macro_rules|`(tactic|and_intros)=>`(tactic|first|(refine Hb.letG6 ?_;intro _ _ _ _ _ _)|(refine Hb.letG5 ?_;intro _ _ _ _ _)|(refine Hb.letG4 ?_;intro _ _ _ _)|(refine Hb.letG3 ?_;intro _ _ _)|(refine Hb.letG2 ?_;intro _ _)|(refine Hb.letG1 ?_;intro _))
namespace Hb
open PySem L2
theorem Qh[?c3]{p0:?wO}[?O](k:∀x0,?iC->?rB):?WK (Em fun x0=>?m1/\?iC):=by
 rintro _ ⟨x0,rfl,h0⟩;exact k x0 h0
theorem WV[?c3]{p0 p1:?wO}[?O](k:∀x0,?iC->?tE->?rB):?WK (?a1Q (?iC) (?tE)):=by
 rintro _ ⟨x0,rfl,h0,h1⟩;exact k x0 h0 h1
theorem KL[?c3]{p0 p1 p2:?wO}[?O](k:∀x0,?iC->?tE->p2 x0->?rB):?WK (Em fun x0=>B4 ?f4 (?iC) (?tE) (p2 x0)):=by
 rintro _ ⟨x0,rfl,h0,h1,h2⟩;exact k x0 h0 h1 h2
theorem Na[?c3]{p0 p1 p2:Prop}[?O](k:p0->p1->p2->?FT):?WK (?a1N (Em fun x0=>?m1)):=by
 rintro _ ⟨h0,h1,h2,x0,rfl⟩;exact k h0 h1 h2 x0
theorem KJ[?c3]{p0 p1 p2 p3:Prop}[?O](k:p0->p1->p2->p3->?FT):?WK (D6 (p0) (p1) (p2) (p3) (Em fun x0=>?m1)):=by
 rintro _ ⟨h0,h1,h2,h3,x0,rfl⟩;exact k h0 h1 h2 h3 x0
theorem kL[?d4]{p0:?lX}[?O](k:∀x0 x1,?eQ->?k8):?WK (Ju fun x0 x1=>?mY/\?eQ):=by
 rintro _ ⟨x0,x1,rfl,h0⟩;exact k x0 x1 h0
theorem wV[?d4]{p0 p1:?lX}[?O](k:∀x0 x1,?eQ->?iG->?k8):?WK (Ju fun x0 x1=>E5 ?hP (?eQ) (?iG)):=by
 rintro _ ⟨x0,x1,rfl,h0,h1⟩;exact k x0 x1 h0 h1
theorem Wv[?d4]{p0 p1 p2:?lX}[?O](k:∀x0 x1,?eQ->?iG->?rI->?k8):?WK (Ju fun x0 x1=>B4 ?hP (?eQ) (?iG) (?rI)):=by
 rintro _ ⟨x0,x1,rfl,h0,h1,h2⟩;exact k x0 x1 h0 h1 h2
theorem wO[?d4]{p0 p1 p2:Prop}[?O](k:p0->p1->p2->?FD):?WK (?a1N (Ju fun x0 x1=>?mY)):=by
 rintro _ ⟨h0,h1,h2,x0,x1,rfl⟩;exact k h0 h1 h2 x0 x1
theorem WU[?d4]{p0 p1 p2 p3:?lX}[?O](k:∀x0 x1,?eQ->?iG->?rI->?KY->?k8):?WK (Ju fun x0 x1=>D6 ?hP (?eQ) (?iG) (?rI) (?KY)):=by
 rintro _ ⟨x0,x1,rfl,h0,h1,h2,h3⟩;exact k x0 x1 h0 h1 h2 h3
theorem WN[?d4]{p0 p1 p2 p3:Prop}[?O](k:p0->p1->p2->p3->?FD):?WK (D6 (p0) (p1) (p2) (p3) (Ju fun x0 x1=>?mY)):=by
 rintro _ ⟨h0,h1,h2,h3,x0,x1,rfl⟩;exact k h0 h1 h2 h3 x0 x1
theorem wU[?d3]{p0:?jY}[?O](k:∀x0 x1 x2,?fL->?k2):?WK (Nv fun x0 x1 x2=>σ=?sD/\?fL):=by
 rintro _ ⟨x0,x1,x2,rfl,h0⟩;exact k x0 x1 x2 h0
theorem WT[?d3]{p0 p1:?jY}[?O](k:∀x0 x1 x2,?fL->?kT->?k2):?WK (Nv fun x0 x1 x2=>E5 ?dI ?rO ?qK):=by
 rintro _ ⟨x0,x1,x2,rfl,h0,h1⟩;exact k x0 x1 x2 h0 h1
theorem Wu[?d3]{p0 p1 p2:?jY}[?O](k:∀x0 x1 x2,?fL->?kT->?gT->?k2):?WK (Nv fun x0 x1 x2=>B4 ?dI ?rO ?qK (?gT)):=by
 rintro _ ⟨x0,x1,x2,rfl,h0,h1,h2⟩;exact k x0 x1 x2 h0 h1 h2
theorem kK[?d3]{p0 p1 p2 p3 p4:?jY}[?O](k:∀x0 x1 x2,?fL->?kT->?gT->?pK->?t7->?k2):?WK (Nv fun x0 x1 x2=>Hq ?dI ?rO ?qK (?gT) (?pK) (?t7)):=by
 rintro _ ⟨x0,x1,x2,rfl,h0,h1,h2,h3,h4⟩;exact k x0 x1 x2 h0 h1 h2 h3 h4
theorem WS[?d3]{p0 p1 p2 p3 p4 p5:?jY}[?O](k:∀x0 x1 x2,?fL->?kT->?gT->?pK->?t7->?M5->?k2):?WK (Nv fun x0 x1 x2=>Lk ?dI ?rO ?qK (?gT) (?pK) (?t7) (?M5)):=by
 rintro _ ⟨x0,x1,x2,rfl,h0,h1,h2,h3,h4,h5⟩;exact k x0 x1 x2 h0 h1 h2 h3 h4 h5
theorem Wt[?n2]{p0 p1 p2:A0->A1->?a1U A2 A3}[?O](k:∀x0 x1 x2 x3,?Q1->?HV->?FY->?QE):?WK (Th fun x0 x1 x2 x3=>B4 (?jM) (?Q1) (?HV) (?FY)):=by
 rintro _ ⟨x0,x1,x2,x3,rfl,h0,h1,h2⟩;exact k x0 x1 x2 x3 h0 h1 h2
theorem Ao5[?n2]{p0 p1 p2:Prop}[?O](k:p0->p1->p2->∀x0 x1 x2 x3,?QE):?WK (?a1N (Th fun x0 x1 x2 x3=>?jM)):=by
 rintro _ ⟨h0,h1,h2,x0,x1,x2,x3,rfl⟩;exact k h0 h1 h2 x0 x1 x2 x3
theorem WR[?n1]{p0 p1 p2:?uR}[?O](k:∀x0 x1 x2 x3 x4,?i2->?j1->?iT->?zW):?WK (Xr fun x0 x1 x2 x3 x4=>B4 ?n0 (?i2) (?j1) (?iT)):=by
 rintro _ ⟨x0,x1,x2,x3,x4,rfl,h0,h1,h2⟩;exact k x0 x1 x2 x3 x4 h0 h1 h2
theorem wR[?n1]{p0 p1 p2 p3 p4:?uR}[?O](k:∀x0 x1 x2 x3 x4,?i2->?j1->?iT->?sE->?oK->?zW):?WK (Xr fun x0 x1 x2 x3 x4=>Hq ?n0 (?i2) (?j1) (?iT) (?sE) (?oK)):=by
 rintro _ ⟨x0,x1,x2,x3,x4,rfl,h0,h1,h2,h3,h4⟩;exact ?a08 x4
theorem WQ[?n1]{p0 p1 p2 p3 p4 p5:?uR}[?O](k:∀x0 x1 x2 x3 x4,?i2->?j1->?iT->?sE->?oK->?PD->?zW):?WK (Xr fun x0 x1 x2 x3 x4=>Lk ?n0 (?i2) (?j1) (?iT) (?sE) (?oK) (?PD)):=by
 rintro _ ⟨x0,x1,x2,x3,x4,rfl,h0,h1,h2,h3,h4,h5⟩;exact k x0 x1 x2 x3 x4 h0 h1 h2 h3 h4 h5
theorem wQ{A0 A1 A2 A3 A4 A5 A6:Type}{S:A0->A1->A2->A3->A4->A5->A6->St}{p0 p1 p2 p3:A0->A1->A2->A3->A4->?a1U A5 A6}[?O](k:∀x0 x1 x2 x3 x4 x5 x6,?NU->?LK->?QZ->?GA->let s:=?HA;G s):?WK (XQ fun x0 x1 x2 x3 x4 x5 x6=>D6 (σ=?HA) (?NU) (?LK) (?QZ) (?GA)):=by
 rintro _ ⟨x0,x1,x2,x3,x4,x5,x6,rfl,h0,h1,h2,h3⟩;exact ?ZO x6
theorem WO[?C8]{p0 p1 p2 p3:A0->A1->A2->A3->A4->A5->?a1U A6 A7}[?O](k:∀x0 x1 x2 x3 x4 x5 x6 x7,?HN->?GG->?P3->?LM->let s:=?m5;G s):?WK (xQ fun x0 x1 x2 x3 x4 x5 x6 x7=>D6 (σ=?m5) (?HN) (?GG) (?P3) (?LM)):=by
 rintro _ ⟨x0,x1,x2,x3,x4,x5,x6,x7,rfl,h0,h1,h2,h3⟩;exact k x0 x1 x2 x3 x4 x5 x6 x7 h0 h1 h2 h3
theorem QK{A0 A1 A2 A3 A4 A5 A6 A7 A8 A9 LO:Type}{S:A0->A1->A2->A3->A4->A5->A6->A7->A8->A9->LO->St}{p0 p1 p2 p3 p4 p5 p6 p7 p8:A0->A1->A2->A3->A4->A5->A6->A7->A8->?a1U A9 LO}[?O](k:∀x0 x1 x2 x3 x4 x5 x6 x7 x8 x9 R9,?RR->?E5->?RC->?NT->?GO->?EH->?HM->?RS->?DJ->let s:=?KB;G s):∀σ,(GX fun x0 x1 x2 x3 x4 x5 x6 x7 x8 x9 R9=>lO (σ=?KB) (?RR) (?E5) (?RC) (?NT) (?GO) (?EH) (?HM) (?RS) (?DJ))->?N:=by
 rintro _ ⟨x0,x1,x2,x3,x4,x5,x6,x7,x8,x9,R9,rfl,h0,h1,h2,h3,h4,h5,h6,h7,h8⟩;exact k x0 x1 x2 x3 x4 x5 x6 x7 x8 x9 R9 h0 h1 h2 h3 h4 h5 h6 h7 h8
universe Hb
namespace L2
open PySem PySem.Spec PyProof.Rows
section
variable[?n4][?L][?CP]{ds:?sY}
universe e9
universe L2
namespace L2
open PySem PySem.Spec PyProof.Rows PySem.W
section
variable[?W0]{sp:Sp}{m:Str}{pos apos:Pos}[?W4]
universe e9
section
variable[?n4]{K:Frag}[?CP]{ds:?sY}
universe e9
section
variable[?W0]{dvs:?p}{sp:Sp}{m x:Str}{p pos apos:Pos}[?W4]
universe e9
universe L2
namespace L2
open PySem PySem.Spec PyProof.Rows
def C3[?i](n:Str)(st:Stmt):Prop:=∃(f:Addr) (fd:FuncData),W.nsIn K ?MQ n=?c (?a1W f)/\?NG
def S3[?i](C:Addr)(n q:Str)(st:Stmt):Prop:=∃(f:Addr) (fd:FuncData),W.findIn K ?yN n=?c (?a1W f)/\W.isFn K (?f f)=true/\?NP
def BA(x q:Str)(st:Stmt)(ps:?u):Prop:=∀(kV doc pm:Value) (an:OAddr) (Dp ct:Value) (us:?sY),?a0A ps.length->bindArgs (W.fnOf x q (Ji st) (G6 st) (Au st) ?bU kV doc pm an Dp ct) ⟨us,[]⟩=pure (ps.zip us)
section
variable[?n4][?L]{mg:?wM}{base h:Heap}
theorem Bs(X:K.In h)(G:h.Ns ?MQ mg){n:Str}[?CK](d:C3 K n st)(ok:∀{f fd},?NG->?w2)(hb:BA n n st ps):Has P w K mg ?S n ps k sp:=by
 obtain⟨f,fd,a,F⟩:=d;exact⟨_,_,qu9 X G a,F.kp,?xU,ok F⟩
theorem Jh{C:Addr}{n q:Str}[?CK](d:S3 K C n q st)(ok:∀{f fd},?NP->?w2)(hb:BA n q st ps):Kl P w K mg ?S C n ps k sp:=by
 obtain⟨f,fd,a,b,F⟩:=d;exact⟨_,_,⟨a,b,F.kp⟩,?xU,ok F⟩
theorem dH{C:Addr}{q:Str}[?CK](m:PySem.W.makesIn K C=true)(kc:W.keepIn K ?yN=true)(d:S3 K C ?nJ q st)(ok:∀{f fd},E4 K ?nJ q st f fd->?w2)(hb:BA ?nJ q st ps):gX P w K mg ?S C ps k sp:=by
 obtain⟨f,fd,a,b,F⟩:=d;exact⟨_,_,⟨m,a,b,kc⟩,?xU,ok F⟩
universe e9
universe L2
namespace Hb
open PySem L2
def top(i:Nat):Stmt:=PySem.Challenge.pw_holebook_k36_lifts.main.body.getD i (.Pass ⟨0,0,0,0⟩)
structure Fr[?i](mg:?wM)(Ag Ac Aj Aw:Addr):Prop where
 m_Lines:mg "Lines"=?a1W Ag
 cl_Lines:Cls K Ag
 na_Lines_rows:Dn K Ag ?fN
 na_Lines_backs:Dn K Ag ?iB
 m_Stairs:mg "Stairs"=?a1W Ac
 cl_Stairs:Cls K Ac
 na_Stairs_rows:Dn K Ac ?fN
 na_Stairs_backs:Dn K Ac ?iB
 na_Stairs_starts:Dn K Ac ?z6
 m_Work:mg "Work"=?a1W Aj
 cl_Work:Cls K Aj
 na_Work_table:Dn K Aj ?gC
 na_Work_width:Dn K Aj ?oC
 na_Work_left:Dn K Aj ?xD
 na_Work_right:Dn K Aj ?AG
 na_Work_numbers:Dn K Aj ?JH
 m_Book:mg "Book"=?a1W Aw
 cl_Book:Cls K Aw
 na_Book_pieces:Dn K Aw ?DG
 na_Book_levels:Dn K Aw ?ES
 na_Book_lifts:Dn K Aw "lifts"
 x_GAPS:∃a,?Z9 "GAPS" [32,16,8,4,2]
 x_FACE_COUNTS:∃a,?Z9 "FACE_COUNTS" [0,2,3,4]
 x_MOST_ROWS:∃t,mg "MOST_ROWS"=?c (?d 40 t)
 x_LEVELS:∃t,mg "LEVELS"=?c (?d 4 t)
 x_MOST_PIECES:∃t,mg "MOST_PIECES"=?c (?d 40 t)
 n_isinstance:?XJ ?EM
 n_int:?XJ "int"
 n_bool:?XJ ?BM
 n_tuple:?XJ ?w1
 n_zip:?XJ "zip"
 n_max:?XJ "max"
 n_len:?XJ "len"
 n_all:?XJ "all"
 n_range:?XJ "range"
 n_dict:?XJ ?A8
 n_any:?XJ "any"
 n_list:?XJ ?pG
 n_enumerate:?XJ ?eI
 n_min:?XJ "min"
def RK[?CU]:?F:=(ns.drop (?GW)).take (?jS ?g6 ?g6 hi-?GW)
theorem RJ[?CU]:J9 (?lK ?a3) lo hi=(?RE).map ?a3:=by
 unfold J9 RK;rw[qa4,qo3,qp8]
theorem rK[?CU]:?XB ?RE ns.length:=by
 unfold RK;rw[qc8,qj0];omega
theorem pZ:([?dE]:?u).Nodup:=?t
theorem WL:(?TO:?u).Nodup:=?t
theorem An5:(["face",?hK,"level"]:?u).Nodup:=?t
theorem wL:([?dM,?dE,?hK,"k"]:?u).Nodup:=?t
theorem An4:(["k",?hK,"thing"]:?u).Nodup:=?t
theorem WK:(?JN:?u).Nodup:=?t
theorem wK:([?dM,"piece","k"]:?u).Nodup:=?t
theorem pW:([?eN,?oC]:?u).Nodup:=?t
theorem An3:([?eN,?pI,?oC]:?u).Nodup:=?t
theorem yY:(["j",?gC]:?u).Nodup:=?t
theorem YX:(?RQ:?u).Nodup:=?t
theorem yX:(["i","size"]:?u).Nodup:=?t
theorem YW:(?LG:?u).Nodup:=?t
theorem PY:(?QO:?u).Nodup:=?t
theorem yW:([?dM,"below",?hK]:?u).Nodup:=?t
theorem YV:(?I1:?u).Nodup:=?t
theorem pY:([?dM,?dE]:?u).Nodup:=?t
theorem PX:([?eN,"paper"]:?u).Nodup:=?t
theorem pX:(?TT:?u).Nodup:=?t
theorem yV:(["parts"]:?u).Nodup:=?t
theorem CP:(["order","loop","gauge","filling"]:?u).Nodup:=?t
theorem YU:(["part"]:?u).Nodup:=?t
theorem yU:(?rL:?u).Nodup:=?t
theorem YT:(["_law_letter"]:?u).Nodup:=?t
theorem yT:(["_law_i",?NI]:?u).Nodup:=?t
theorem YS:([?NI,"_law_family",?GC]:?u).Nodup:=?t
theorem yS:(["_law_face",?GC]:?u).Nodup:=?t
theorem YR:(["_law_k","_law_book"]:?u).Nodup:=?t
section
variable[?n4][?L][?CP]{Ag Ac Aj Aw:Addr}
noncomputable abbrev Sk:Stmt:=top 2
theorem EY:?aI ?hY ?hY (Au Sk):=Bj
theorem fJ[?aK](F:E4 K ?RW ?RW Sk f fd)[?aJ] :?WF ?hY Jl:=by
 refine ?X9 EY;obtain⟨x,d,rfl,hx,k⟩:=h;refine(?a15 (Me (?X2 (Gz (v:=.ty "int") rfl T.n_int boot_intT rfl)) (Od (pJ (?X2 (Gz (v:=.ty ?BM) rfl T.n_bool g6 rfl))))));refine(?a09 ?g rfl);refine ite2 (?AX) (?AX)
 . refine(?a09 ?k (?g rfl));have e2:Kq d=!KN ?BM d:=by unfold Kq;rw[e];rfl
   rw[e2]at k;exact k
 . have e2:Kq d=false:=by unfold Kq;simp[e]
   rw[e2]at k;exact k
noncomputable abbrev Iq:Stmt:=top 4
theorem Cu:?aI ["one",?pI,"last","now",?GQ,"rest"] ?F1 (Au Iq):=Bj
theorem T4[?aK](F:E4 K ?P0 ?P0 Iq f fd)[?aJ] :?WF ?F1 Wq:=by
 refine ?X9 Cu;obtain⟨n,p,rfl,hA,hB,lA,lB,k⟩:=h
 refine⟨_,(Ae (?YM 2 ?z)
  (Ae (?YM 3 ?Y)
  (Ae (Tx qb5 (?a24 Ij (?XI ?cN Am)) (Ae (?a2E 4 (Br Jn (?XI ?aO Am) (?XI ?cN Am)))
  (Ae (?a2E 5 (Ct (K7 (K:=K)) ?w ?GL Jt (Aa (Cd (N':=?TO) (cap:=[none,none,?c 4]) ?w ?eK (?ZK UA ?aO) (?WJ (?a14 WL (?a28 1 WL))) ?g7 (?WJ (Br Ix ?z (Br ?sQ ?aO ?Y)))) Af)))
  (Ae (?a2E 2 ?cN)
  (Ah (?a2E 3 (pv 5)))))))
  (Ae (B7 (?a24 P5 (?XI ?aO Am)) (?a2C (Ct (K7 (K:=K)) ?w ?GL Jt (Aa (Cd (N':=[?dE]) (cap:=[none]) ?w ?eK (Ua (K:=K) ?aO) (?WJ (?a28 0 pZ)) ?g7 (?WJ (M4 Im ?z))) Af))) Bl)
  (?a2C ?aO))))),?_⟩
 ext fE
 refine⟨_,rfl,?oV,fun L0 hL0=>?_⟩;have s0:?K H (?XQ 0):=?c8 hL0;refine⟨_,rfl,?oV,fun N0 hN0=>?_⟩;have s1:?K (?XQ 0) (?M8):=?c8 hN0;refine E9 (fun σ' H'=>σ'=[iS n,iS p,rS L0,rS N0,none,none]/\H'=?M8) ?_ ?I3;rintro _ _ ⟨rfl,rfl⟩;refine ?YN (fun σ' H'=>Ex9 fun ?wY (a x y u v:Int) ?AA=>B4 ?SL (?J) (Ed K H' L ?kQ) (?a26 a 0))
 . refine⟨fun m σ G=>NZ fun ?wY (a x y b u v:Int) ?AA=>EE (σ=?RT) (?K H G) (Ed K G L ?kQ) (Ed K G N ?B0) (?a26 a b) (a.natAbs<L9) (b.natAbs<L9) (m=b.natAbs),⟨_,L0,N0,n,1,0,p,0,1,?H,?H,rfl,s0.trans s1,.of (s1 _ _ Ab),?l5,Lat.EuI.start hA hB,lA,lB,rfl⟩,?_⟩;rintro m σ G C0;refine UT ?_;intro _;obtain⟨L,N,a,x,y,b,u,v,o4,o5,rfl,s2,hL,hN,hE,la,lb,rfl⟩:=C0;refine(?YU N hN);ext fC
   . have hb0:¬b=0:=?a9
     obtain⟨hE2,hlt⟩:=hE.step hA hb0;obtain⟨_,_,_,_,lu,lv⟩:=hE.all hA hB
     have lq:?SP<L9:=by
      refine qb8 ?_ la;have h3:(?bM*b).natAbs<=a.natAbs+(a-?bM*b).natAbs:=O9m
      rw[qb1]at h3;have h4:0<b.natAbs:=Int.natAbs_pos.mpr hb0;refine qg7 fun h5=>?_;have h6:=qb6 b.natAbs (show a.natAbs+1<=?SP from h5);rw[qf8,qf7]at h6;have h7:=qe8 a.natAbs h4;omega
     have ok:∀z:Int,z.natAbs<L9->?cA (?bM) z:=fun z hz=>CQ lq hz;refine⟨fun σ' G'=>NZ fun ?wY (a' x y b' u v:Int) ?AA=>EE ?SL (?UF) (Ed K G' L [?d a',?d x,?d y]) (Ed K G' N [?d b',?d u,?nX]) (?a26 a' b') (a'.natAbs<L9) (b'.natAbs<L9) (b'.natAbs<b.natAbs),?_,?_⟩
     . rintro σ' G' ⟨L',N',a',x',y',b',u',v',o4',o5',rfl,q1,q2,q3,q4,q5,q6,q7⟩;exact⟨b'.natAbs,q7,L',N',a',x',y',b',u',v',o4',o5',rfl,q1,q2,q3,q4,q5,q6,rfl⟩
     refine⟨_,rfl,L,_,_,_,rfl,rfl,hL,rfl,_,rfl,N,_,_,_,rfl,rfl,hN,rfl,_,_,rfl,rfl,U1.of9 hb0 lb,?_⟩;refine⟨_,rfl,_,rfl,L,N,rfl,?IU,(?ZD hN),?f5⟩
     have gv:∀(i:Nat) (e f:V),?a11 ?kQ e->?a11 ?B0 f->∃e' f':Int,e=?d e'/\f=?d f'/\?cA (?bM) f'/\i<3 ∧
      ?a11 ?p8 (?d (e'-?bM*f')):=by
      intro i e f he hf
      match i,he,hf with
      | 0,he,hf=>cases he;cases hf;exact⟨a,b,rfl,rfl,ok _ lb,?c0,rfl⟩
      | 1,he,hf=>cases he;cases hf;exact⟨x,u,rfl,rfl,?MB,?c0,rfl⟩
      | 2,he,hf=>cases he;cases hf;exact⟨y,v,rfl,rfl,?MB,?c0,rfl⟩
      | i+3,he,hf=>simp at he
     refine JH (K:=K) (a:=L) (b:=N) (xs:=?kQ) (ys:=?B0) (n:=3) ?x9 (fun i zs τ G1=>B4 (?K G G1) (G1 D=?m2) (zs=(?p8:?p).take i) (?Y3 ?c (?d (?bM))))
      ?LJ (fun i zs τ G1 _ hz=>by obtain⟨s3,_⟩:=hz;exact⟨s3.seqT hL,s3.seqT hN⟩) ?_ ?_
     . rintro i e f zs τ G1 pr he hf C0 hpr;revert τ;refine wO ?_;intro s3 FZ hzs o1 o2 Ei;obtain⟨e',f',rfl,rfl,hok,hi3,hnext⟩:=gv i e f he hf;have sp:?K G1 (upd G1 pr (?R [?d e',?d f'])):=?c8 hpr;ext CA;refine⟨_,rfl,_,rfl,_,rfl,_,_,rfl,rfl,hok,_,_,rfl,rfl,?_⟩;refine⟨sp _ _ FZ,?fO (by rw[hzs,qc8];omega),(?D6 sp).turn hD,Ab,?_,_,_,rfl⟩;rw[qe7,hnext,hzs];rfl
     . ext UU;have zK:zs=?p8:=hzs;have hT2:Ed K (upd G1 T1 (?R zs)) T1 ?p8:=?T9
       exact⟨_,rfl,_,rfl,N,T1,b,u,v,a-?bM*b,x-?bM*u,y-?bM*v,_,_,rfl,(?r7 s3).trans s4,(?D6 s4).seqT hN,hT2,hE2,lb,qu5 hlt lb,hlt⟩
   . have hb0:b=0:=?a9
     subst hb0;exact key _ _ ⟨L,N,a,x,y,u,v,o4,o5,rfl,s2,hL,hE⟩
 refine Ah1 fun L N a x y u v o4 o5 G s2 hL hE=>?_;intro sq;obtain⟨e1,e2,e3⟩:=hE.last hA hB;refine⟨_,rfl,L,_,_,_,rfl,rfl,hL,rfl,_,_,rfl,rfl,_,rfl,?_⟩;ext fC
 . have ha:a<0:=?a9
   refine⟨_,rfl,L,rfl,?IU,?f5⟩
   let Pq1:?iU:=fun i zs τ G1=>B4 (?K G G1) (G1 D=?m2) (zs=(?vR:?p).take i) (Em fun o1=>τ=[o1])
   refine Wb (K:=K) (a:=L) (xs:=?kQ) Pq1
    ?sK (fun i zs τ G1 _ hz=>by obtain⟨s3,_⟩:=hz;exact s3.seqT hL) ?_ ?_
   . rintro i e zs τ G1 he C0;ext tW;intro s3 FZ hzs o1 Ei
     have gv:∃e':Int,e=?d e'/\i<3/\?a11 ?vR (?d (-e')):=by
      match i,he with
      | 0,he=>cases he;exact(?a0P a)
      | 1,he=>cases he;exact(?a0P x)
      | 2,he=>cases he;exact(?a0P y)
      | i+3,he=>simp at he
     obtain⟨e',rfl,hi3,hnext⟩:=gv;refine⟨_,rfl,_,rfl,FZ,?fO (by rw[hzs,qc8];omega),s3.turn hD,Ab,?_,_,rfl⟩;rw[qe7,hnext,hzs];rfl
   . ext UU;have zK:zs=?vR:=hzs;exact k T1 (-a) (-x) (-y) _ ((?r7 s3).trans s4) (?T9) (e2 ha)
 . have ha:¬a<0:=?a9
   exact⟨_,rfl,k L a x y G s2 hL (e1 O9m)⟩
noncomputable abbrev Sj:Stmt:=top 7
theorem eY:?aI ?rL ?rL (Au Sj):=Bj
theorem FI[?aK](F:E4 K ?UI ?UI Sj f fd)[?aJ] :?WF ?rL Ff:=by
 refine ?X9 eY;obtain⟨x,ds,rfl,hx,k⟩:=h;refine(?a15 (Bf (BQ ?w) T.n_max bR (Aa (Br Ix (?X8 ?z) Am) (Aa Am Af))))
 obtain⟨p,us,e,hq,hl⟩:∃(p:Addr) (us:?p),x=?a8/\(?YR p us\/Ed K H p us)/\?a0A ds.length:=by
  rcases hx with⟨p,us,e,hq,r⟩|⟨p,us,e,hq,r⟩
  . exact⟨p,us,e,?g hq,?uQ⟩
  . exact⟨p,us,e,?k hq,?uQ⟩
 subst e;refine⟨_,rfl,p,us,rfl,hq,_,_,rfl,rfl,_,_,rfl,?_⟩;rw[hl];exact k
noncomputable abbrev L6:Stmt:=top 10
theorem Kv:?aI [?hK,"faces","j","i"] ?NN (Au L6):=Bj
theorem Y9[?aK](F:E4 K ?L8 ?L8 L6 f fd)[?aJ] :?WF ?NN Pl:=by
 refine ?X9 Kv;obtain⟨a,v,xs,p,rfl,hL,hv,Q2,hf,k⟩:=h;obtain⟨pa,rfl,hq⟩:=hv.sq;have hpl:(p.map ?a3).length=p.length:=qa4 ..
 refine⟨_,(Ae (B8 qb5 rfl (?a2A (?X8 ?Y)) (?a28 2 Kv.nd) (Ah (B8 qb5 rfl (?a2A ?aO) (?a28 3 Kv.nd) (Ah (B7 (Be Ij (?XI (?a1R ?aO) ?cN) (?XI (?a1R ?cN) (Br Ix ?aO Am)) ?cB) ?rR Bl)))))
  ?rR),?_⟩
 ext fE
 refine⟨_,rfl,pa,_,rfl,?k hq,_,rfl,O9m,O9m,?_⟩;rw[hpl]
 let Pq2:?jN:=fun j σ H2=>E5 (H=H2) ((∃o2 o3,σ=[rS a,rS pa,o2,o3])) (∀j' i',j'<j->i'<j'->Uu xs p j' i'=true)
 refine Cn (lo:=0) (n:=((p.length:Nat):Int).toNat) Pq2
  ⟨rfl,⟨?H,?H,rfl⟩,fun j' i' h=>?H2⟩ ?_ ?_
 . rintro j σ H2 hj C0
   and_intros
   obtain⟨rfl,⟨o2,o3,rfl⟩,hall⟩:=C0;have hj':?TM:=O9m
   refine⟨_,rfl,_,rfl,O9m,O9m,?_⟩
   let Pq3:?jN:=fun i σ H2=>E5 (H=H2) ((∃o3,σ=[rS a,rS pa,?c (?d (0+j)),o3])) (∀i',i'<i->Uu xs p j i'=true)
   refine Cn (lo:=0) (n:=?RA) Pq3
    ⟨rfl,?hI,fun i' h=>?H2⟩ ?_ ?_
   . rintro i σ H2 hi C0
     and_intros
     obtain⟨rfl,⟨o3,rfl⟩,hall2⟩:=C0;have hij:i<j:=O9m
     have mj:?pL∈p:=by rw[qa3,qa0 hj'];exact ?fH
     have mi:?pU∈p:=?SG
     obtain⟨j0,j1,j2⟩:=hf _ mj;obtain⟨i0,i1,i2⟩:=hf _ mi;obtain⟨_,z,hq1,at1⟩:=?a0J ?h4 hv;cases z;rw[show ?RA=j by omega]at at1;obtain⟨_,z,hq2,at2⟩:=?a0J ?wB hv;cases z;rw[?GI]at at2;obtain⟨us1,v1,hu1,av1,tv1⟩:=LT.get hL j0 j1;obtain⟨ON,v2,ZK,av2,tv2⟩:=LT.get hL i0 i1;obtain⟨b1,e1,hb1,ab1⟩:=?a0J ?wB tv1;obtain⟨b2,e2,hb2,ab2⟩:=?o8 (i:=?h4-1) tv2 O9m O9m;subst e1 e2;rw[?GI]at ab1;rw[show(?h4-1).toNat=j-1 by omega]at ab2;refine⟨_,rfl,_,rfl,_,rfl,pa,_,_,_,rfl,rfl,hq1,at1,a,us1,_,_,rfl,rfl,hu1,av1,_,rfl,b1,_,_,_,rfl,rfl,hb1,ab1,?_⟩;refine⟨_,rfl,_,rfl,_,rfl,pa,_,_,_,rfl,rfl,hq2,at2,a,ON,_,_,rfl,rfl,ZK,av2,_,rfl,_,_,rfl,rfl,b2,_,_,_,rfl,rfl,hb2,ab2,?_⟩;refine⟨rfl,_,rfl,?_⟩;by_cases hag:?XE 0
     . refine Ih (eqI hag) ?_;refine⟨rfl,?hI,fun i' h=>?_⟩;by_cases hz:i'=i
       . subst hz;unfold Uu;exact qf9 hag
       . exact ?SE
     . refine DC (neI hag) ?_
       have e2:Mr xs p=false:=by
        cases q:Mr xs p with
        | false=>rfl
        | true =>
          unfold Mr at q;rw[qe5]at q;have q2:=q j (?kD hj');rw[qe5]at q2;have q3:=q2 i (?kD hij);exact ?W (qd2 q3) hag
       rw[e2]at k;exact k
   . rintro σ H2 ⟨rfl,⟨o3,rfl⟩,hall2⟩;refine⟨rfl,⟨_,_,rfl⟩,fun j' i' h1 h2=>?_⟩;by_cases hz:j'=j
     . subst hz;exact ?SE
     . exact hall j' i' O9m h2
 . rintro σ H2 ⟨rfl,⟨o2,o3,rfl⟩,hall⟩
   have e2:Mr xs p=true:=by
    ext VP;have:=?hQ hj;exact hall j i O9m (?h7)
   rw[e2]at k;exact k
noncomputable abbrev Yw:Stmt:=top 16
theorem aX:?aI [?l0,?dM,?dE,"total"] ?FJ (Au Yw):=Bj
theorem MH[?aK](F:E4 K ?HZ ?HZ Yw f fd)[?aJ] :?WF ?FJ Qy:=by
 refine ?X9 aX;obtain⟨a,ms,k,n,rfl,ha,hl,kq⟩:=h;have Nu:=hr.u8
 refine⟨_,(Ae (Av (i:=3) aX.nd (Br Dl (M7 ?zJ ?z ?Y Am ?w9) ?aO))
  (Ah (B7 (?a24 Fg ?cN) (Ah (Bx (PK ?z ?Y Y5 ?w9))) (Ah (Tz ?zJ ?z ?Y ?cN ?w))))),?_⟩
 ext fE
 refine⟨_,rfl,a,rfl,?g ⟨_,?g ha⟩,_,rfl,_,Q6 (?g ha),_,rfl,?T,n,Q7 ms k,rfl,?_⟩;refine ?JM;ext fC
 . have e:?iI=0:=?a9
   unfold Jb at kq;rw[?bB]at kq;refine⟨_,rfl,a,rfl,?g ⟨_,?g ha⟩,_,rfl,?cQ,?pW,ha,rfl,fun v hv=>?_,fun hn=>?_⟩
   . rw[VJ];exact kq
   . rw[jK]at hn;have hn':?OV:=by simpa using hn
     have e2:?eU=ms:=by
      unfold Il;rw[List.filter_eq_self];intro p hp
      have:¬?dP:=fun z=>by
       have h3:?EG:=qp5.mpr ⟨p,hp,?BF⟩;rw[X6]at h3;obtain⟨p',ZL,e'⟩:=?bZ h3;rw[←e']at hn'
       have:∀(ns:Ms),p'∈ns->?eD ns p'.1≠none:=by
        intro ns
        induction ns with
        | nil=>ext aC
        | cons q ns ih =>
          intro hq;rw[Dm];split
          . exact ?vY
          . rename_i hne
            rcases ?vM hq with rfl | hq
            . exact ?W rfl hne
            . exact ih hq
       exact ?V ms ZL hn'
      ext jD
     rw[e2,xX ha]at kq;exact kq
 . have e:¬?iI=0:=?a9
   unfold Jb at kq;rw[?cY]at kq;exact⟨_,rfl,_,rfl,_,rfl,a,_,rfl,Uj ha hl,kq⟩
noncomputable abbrev cD:Stmt:=top 17
theorem oU:?aI ?xC ?xC (Au cD):=Bj
theorem pP[?aK](F:E4 K "times" "times" cD f fd)[?aJ] :?WF ?xC EO:=by
 refine ?X9 oU;obtain⟨n,a,ms,rfl,ha,hm,hok,k⟩:=h
 refine⟨_,(Ae (B7 (?a24 Fg ?z) (?a2C K4) Bl)
  (?a2C (Ct (f8 ?w) ?w ?L5 Eb (Aa (pK (Cd (N':=?JN) (cap:=[none,none,?c 0]) ?w ?eK (P4 ?Y) (?WJ (?a14 WK (?a28 1 WK))) ?g7 (?WJ (Fc (Aa ?z (Aa (Br ?sQ ?aO ?Y) Af)))))) Af)))),?_⟩
 ext fE
 refine ?JM;ext fC
 . have e:n=0:=?a9
   intro D hD;refine k D _ hD (?lZ) ?_;rw[Ab];unfold Ph;rw[?bB];rfl
 have e:¬n=0:=?a9
 refine ?k ⟨a,?cQ,ha,fun hnd o=>?_⟩;refine⟨_,rfl,a,o,?cQ,rfl,Ab,?f5⟩;obtain⟨VC,nDa⟩:=GC hD
 let Pq4:?iU:=fun i zs τ H1=>Em fun(ts:?iD)=>Lk (zs=ts.map V.ref) (ts.length=i) ((∀(j:Nat) t,ts[j]?=?c t->∃p:?aG,ms[j]?=?mH/\H1 t=?c (?R [?d p.1,?EB])/\t≠D)) (H1 a=?c (.frz o ?m0)) (H1 D=?m2) ((∀c q,c≠a->?LA)) (?Y3 iS n)
 refine c8 (d:=a) (o:=o) (kvs:=?cQ) Pq4
  ⟨[],rfl,rfl,(fun j t z=>?LO),?_,Ab,?_,?H,?H,rfl⟩ (fun i zs τ H1 _ hz=>by obtain⟨_,_,_,_,e,_⟩:=hz;exact e) ?_ ?_
 . rw[Ai nDa.symm];exact Ab
 . intro c q n1 e2;rw[Ai (Ao e2 VC),Ai n1];exact e2
 . rintro i kk x zs τ H1 p hx ⟨ts,rfl,kQ,hts,ha1,El,hk1,o1,o2,rfl⟩ hp;obtain⟨q,hq,rfl,rfl⟩:=Le hx;have hlt:?M2:=?PZ;have sp:?K H1 (upd H1 p (?R [?d q.1,?d q.2])):=?uS;ext VK;refine⟨_,rfl,_,rfl,_,rfl,_,_,rfl,rfl,hok q (qb0 hq),?oV,fun t ht=>?_⟩;have st:=sp.trans (?c8 (o:=?R [?d q.1,?d (n*q.2)]) ht);have ntD:t≠D:=(Ao (?PM) ht).symm;refine⟨st _ _ El,?fO (by rw[qa4];omega),ts++[t],?g9,by simp[kQ],fun j t' e2=>?_,?_,Ab,fun c r n1 e2=>?_,_,_,rfl⟩
   . rw[List.getElem?_append]at e2;split at e2
     . obtain⟨p',GY,h2',h3'⟩:=hts j t' e2;exact⟨p',GY,by rw[Ai h3'];exact st _ _ h2',h3'⟩
     . rename_i hj
       have hj0:j-ts.length=0:=by
        cases hz:j-ts.length with
        | zero=>rfl
        | succ m=>rw[hz]at e2;simp at e2
       rw[hj0]at e2;have et:t=t':=by simpa using e2
       subst et;refine⟨q,by rw[?Y8 j i];exact hq,?_,ntD⟩;rw[Ai ntD];exact Ab
   . rw[Ai nDa.symm];exact st _ _ ha1
   . have:=hk1 c r n1 e2;rw[Ai (fun z=>by rw[z,VC]at e2;cases e2)];exact st _ _ ?V
 . rintro zs τ H1 ⟨ts,rfl,kQ,hts,ha1,El,hk1,_⟩;rw[Ka]at kQ;refine⟨ha1,D,ts,cK (?Z8 n),rfl,(by rw[Ai nDa];exact El),(by rw[Ka,qa4];exact kQ),fun i t e2=>?_,fun E hE=>?_⟩
   . obtain⟨p,GY,h2',_⟩:=hts i t e2;refine⟨(?g p.1,?EB),?_,?_⟩
     . unfold cK;rw[qa9,qa9,GY];rfl
     . have nta:t≠a:=Fh h2' ha1 (?vY);rw[Ai nta];exact h2'
   . have s1:?K H (upd H1 a ?m0):=fun c q e2=>by
      by_cases z:c=a
      . subst z;rw[ha]at e2;cases e2;exact Ab
      . rw[Ai z];exact hk1 c q z e2
     refine k E _ (?AJ hE) (?B4 (?c8 hE)) ?_;rw[Ab];have hnd':?bA:=Jo.mp hnd;rw[Of _ [] (by rw[qo2];exact Jo.mpr (iH hnd' n))];unfold Ph;rw[?cY,qo2]
noncomputable abbrev Iu:Stmt:=top 30
theorem Tv:?aI ?hY ?hY (Au Iu):=Bj
theorem T6[?aK](F:E4 K ?LX ?LX Iu f fd)[?aJ] :?WF ?hY KA:=by
 refine ?X9 Tv;obtain⟨v,xs,rfl,hL,hx,k⟩:=h;obtain⟨Rm,AJ⟩:=T.x_MOST_PIECES;obtain⟨a,us,rfl,hq,r⟩:=id hL;have hl:?a0A xs.length:=by have:=r.length;ext jD
 refine(?a15 (Me (?X2 (Gz (v:=.ty ?pG) rfl T.n_list Fm rfl)) (Od (Oe kE (?X8 ?z) (Lp (v:=?d 40) ?w AJ ?hI) ?cB))));refine⟨_,rfl,?y,?pG,_,rfl,?k (?ZG ?g),hL,_,rfl,?_⟩;refine DC ?w ?_;refine⟨_,rfl,a,_,rfl,?g hq,_,_,rfl,rfl,?_⟩;show Q (.bl (?m ((us.length:Int)<=40))) H;rw[qf9 ?e];exact k
noncomputable abbrev Yu:Stmt:=top 40
theorem LZ:?aI ?zT ?zT (Au Yu):=Bj
theorem MG[?aK](F:E4 K ?QI ?QI Yu f fd)[?aJ] :?WF ?zT aR:=by
 refine ?X9 LZ;obtain⟨v,h,w,j,f,rfl,hv,hh,hj,k⟩:=h;obtain⟨a,us,rfl,hq,Xl,On⟩:=Id hv;refine(?a15 (Cd (N':=?RQ) (cap:=?vL) ?w ?eK (Ce (K:=K) ?z) (?WJ (?a28 0 YX)) ?g7 (?WJ (Ba ?l1 ?z ?Y ?aB))));refine(?Y1 a hq)
 let Pq5:?iU:=fun i ys τ H1=>B4 (?iR) (H1 D=?nB) (ys=VI i (fun i=>f i j)) (?a0G iS j)
 refine Cw (K:=K) (a:=a) (xs:=us) Pq5
  ?sK (fun i ys τ H1 _ hz=>by obtain⟨s1,_⟩:=hz;exact ?lR hq) ?_ ?_
 . rintro i x ys τ H1 hx C0;ext tW;intro s1 El hz1 o Ei;subst hz1;obtain⟨hi,b,rfl,hb⟩:=On i _ hx;refine⟨_,rfl,_,rfl,b,_,_,_,rfl,rfl,?lR hb,Au7 hj,?_⟩;refine⟨El,?y9,?JR,Ab,?_,_,rfl⟩;rw[Uw]
 . rintro ys τ H1 ⟨s1,El,rfl,_⟩;rw[Xl]at El;exact ?BN
noncomputable abbrev Ve:Stmt:=top 42
theorem HU:?aI ?z0 ?z0 (Au Ve):=Bj
theorem ID[?aK](F:E4 K ?RG ?RG Ve f fd)[?aJ] :?WF ?z0 Yh:=by
 refine ?X9 HU;obtain⟨n,i,rfl,hn,k⟩:=h;refine(?a15 (Cd (N':=?LG) (cap:=?vL) ?w ?eK (?a2A ?z) (?WJ (?a28 0 YW)) ?g7 (?WJ (Y6 (Be Fg ?z ?Y ?cB) Am Am))));refine⟨_,rfl,_,rfl,O9m,O9m,?f5⟩
 let Pq6:?iU:=fun j ys τ H1=>B4 (?iR) (H1 D=?nB) (ys=VI j (?QK)) (?a0G iS i)
 refine Hn Pq6
  ?sK ?_ ?_
 . rintro j ys τ H1 hj C0;ext tW;intro s1 El hz1 o Ei;subst hz1;refine ?LW;have sz:(VI j ?QK).length<sizeLine:=?y9;ext fC
   . have e0:?h4=?cD:=?a9
     have e:j=i:=O9m
     refine ?MM;rw[Uw,?bB]
   . have e0:¬?h4=?cD:=?a9
     have e:¬j=i:=O9m
     refine ?MM;rw[Uw,?cY]
 . rintro ys τ H1 ⟨s1,El,rfl,_⟩;rw[qe3]at El;exact ?BN
noncomputable abbrev CD:Stmt:=top 44
theorem OU:?aI ?vO ?vO (Au CD):=Bj
theorem pQ[?aK](F:E4 K "mixed" "mixed" CD f fd)[?aJ] :?WF ?vO Tk:=by
 refine ?X9 OU;obtain⟨a,b,x,y,n,p,q,rfl,hx,hy,hn,hm,k⟩:=h;refine⟨_,(?a2C (Cd (N':=?QO) (cap:=[none,none,?c 0,?c 2]) ?w ?eK (?ZK CH ?Y) (?WJ (?a14 PY (?a28 1 PY))) ?g7 (?WJ (Br Dl (Br ?sQ ?aO ?z) (Br ?sQ ?cN ?Y))))),?_⟩;refine⟨_,rfl,_,rfl,x,y,rfl,(?ZD hx),(?ZD hy),?f5⟩
 refine bP (K:=K) (a:=x) (b:=y) (xs:=VI n p) (ys:=VI n q) (n:=n) (by rw[Bu,Bu,qx1]) (fun i zs τ H1=>B4 (?iR) (H1 D=?m2) (zs=VI i (fun j=>a*p j+b*q j)) (Ju fun o1 o2=>τ=[o1,o2,iS a,iS b]))
  ?LJ (fun i zs τ H1 _ hz=>by obtain⟨s1,_⟩:=hz;exact⟨?lR hx,?lR hy⟩) ?_ ?_
 . rintro i u v zs τ H1 pr hu hv C0 hp;revert τ;refine wO ?_;intro s1 El hz1 o1 o2 Ei;subst hz1;obtain⟨hi,rfl⟩:=We hu;obtain⟨_,rfl⟩:=We hv;have sp:?K H1 (upd H1 pr (?R [?d (p i),?d (q i)])):=?uS;ext CA;refine⟨_,rfl,_,rfl,_,_,rfl,rfl,(hm i hi).1,_,rfl,_,rfl,_,_,rfl,rfl,(hm i hi).2,_,_,rfl,rfl,?_⟩;refine⟨?PM,?y9,(?B4 sp).turn hD,Ab,?_,_,_,rfl⟩;rw[Uw]
 . rintro zs τ H1 ⟨s1,El,rfl,_⟩;exact ?BN
noncomputable abbrev N1:Stmt:=top 50
theorem v5:?aI ?y2 ?y2 (Au N1):=Bj
theorem y3[?aK](F:E4 K ?LL ?LL N1 f fd)[?aJ] :?WF ?y2 Rn:=by
 refine ?X9 v5;obtain⟨a,b,sp,ms,rfl,kR,hb,hl,kq⟩:=h;have Nu:=hr.u8;refine(?a15 (Cd (N':=?I1) (cap:=?vL) ?w ?eK (Ce (K:=K) ?z) (?WJ (?a28 0 YV)) ?g7 (?WJ (M7 ?zJ ?Y ?z Am ?w9))));refine(?Y1 a kR)
 let Pq7:?iU:=fun i ys τ G=>B4 (?K H G) (G D=?nB) (ys=((sp.take i).map (Ay ms)).map ?a3) (?a0G rS b)
 refine Cw (K:=K) (a:=a) (xs:=?l4 ?a3) Pq7
  ?sK (fun i ys τ G _ hz=>by obtain⟨g,_⟩:=hz;exact g.seq kR) ?_ ?_
 . rintro i x ys τ G hx C0;ext tW;intro g D7 hys o Ei;have hi:?y1:=by have:=(?bC hx).1;ext jD
   have hxv:x=?d sp[i]:=by
    rw[qa9,?h3]at hx;simpa using hx.symm
   subst hxv;have dG:=tS g hb;refine⟨_,rfl,b,rfl,?g (?ZD dG),_,rfl,_,Q6 dG,?_⟩;rw[Q7];refine⟨D7,?fO (by rw[hys,qa4,qa4,qc8];omega),g.turn hD,Ab,?_,_,rfl⟩;rw[qe7,?h3,qb4,qb4,hys];rfl
 . rintro ys τ G ⟨g,D7,hys,_⟩;rw[qa4,qd0]at hys;refine kq D G hD g ?_;rw[D7,hys]
noncomputable abbrev Yx:Stmt:=top 54
theorem MA:?aI ["turn"] ["turn"] (Au Yx):=Bj
theorem MI[?aK](F:E4 K ?SN ?SN Yx f fd)[?aJ] :?WF ["turn"] aU:=by
 refine ?X9 MA;obtain⟨u,t,rfl,hu,k⟩:=h
 refine⟨_,(Ae (B7 (Be Fg ?r2 Oc ?cB) (?a2C (Fc (Aa Oc (Aa ?r2 (Aa ?r2 (Aa (M4 Im ?r2) Af)))))) Bl)
  (?a2C ?z)),?_⟩
 ext fE
 cases t with
 | ad i j n =>
   obtain⟨ta,vs,rfl,hT,rT⟩:=hu;obtain⟨_,_,rfl,rfl,_,_,rfl,rfl,_,_,rfl,rfl,_,_,rfl,rfl,rfl⟩:=rT;refine ?O8;refine DC (?t) ?_;refine⟨_,rfl,ta,_,_,_,rfl,rfl,hT,rfl,_,rfl,ta,_,_,_,rfl,rfl,hT,rfl,_,rfl,ta,_,_,_,rfl,rfl,hT,rfl,_,rfl,?oV,?JE⟩;exact k _ _ (?c8 hT1) ⟨T1,_,rfl,?l5,⟨_,_,rfl,rfl,_,_,rfl,rfl,_,_,rfl,rfl,_,_,rfl,rfl,rfl⟩⟩
 | mi i =>
   obtain⟨ta,vs,rfl,hT,rT⟩:=id hu;obtain⟨_,_,rfl,rfl,_,_,rfl,rfl,rfl⟩:=rT;ext UW
 | sw i j =>
   obtain⟨ta,vs,rfl,hT,rT⟩:=id hu;obtain⟨_,_,rfl,rfl,_,_,rfl,rfl,_,_,rfl,rfl,rfl⟩:=rT;ext UW
noncomputable abbrev Fb:Stmt:=E8 (top 55) 0
theorem Xd:?aI ?yB ?yB (Au Fb):=Bj
theorem O9[?aK](F:E4 K ?nJ "Lines.__init__" Fb f fd)[?aJ] :Bw P w K mg ?S Ex 1 f fd ?yB (My K Ag Ac Aj):=by
 refine ?X9 Xd;obtain⟨p,dx,C,r,b,rfl,hC,hp,k⟩:=h
 have hc:Cls K C/\Dn K C ?fN/\Dn K C ?iB:=by
  rcases hC with rfl | rfl
  . exact⟨T.cl_Lines,T.na_Lines_rows,T.na_Lines_backs⟩
  . exact⟨T.cl_Stairs,T.na_Stairs_rows,T.na_Stairs_backs⟩
 refine⟨_,(Ae (E7 (K:=K) ?z ?Y)
  (Ah (E7 (K:=K) ?z ?aO))),?_⟩
 ext fE
 refine⟨_,rfl,_,rfl,p,C,dx,_,rfl,hp,hc.1,hc.2.1,?g9,?_⟩;refine⟨_,rfl,_,rfl,p,C,dx,_,rfl,Ab,hc.1,hc.2.2,by simp[putF],?_⟩;exact k _ _ rfl rfl
noncomputable abbrev Sg:Stmt:=top 59
theorem Pp:?aI [?eN,"at"] [?eN] (Au Sg):=Bj
theorem FG[?aK](F:E4 K ?JT ?JT Sg f fd)[?aJ] :?WF [?eN] Ts:=by
 refine ?X9 Pp;obtain⟨c,W,st,u,rfl,hq,hb,hW,k⟩:=h;obtain⟨b1,b2,b3⟩:=hb
 refine⟨_,(Ae (Av (i:=1) Pp.nd Am)
  (Ae (Tx qb5 (?a24 Fg (Ba ?l1 ?z ?Y ?aB)) (Ah (Av (i:=1) Pp.nd (Br Dl ?Y Am))))
  (?a2C ?Y))),?_⟩
 ext fE
 refine E9 (?a1M (?d ?oN)) ?_ ?I3;refine Kb ?_;intro sq;refine ?YN (?a1M (?d (st:Int)))
 . refine⟨fun m σ G=>Em fun ?q2=>B4 (σ=[rS c,?c (?d ?cV)]) (H=G) (j<=st) (m=st-j),⟨_,0,rfl,rfl,?a4,rfl⟩,?_⟩;rintro m σ _ C0;refine UT ?_;intro _;obtain⟨j,rfl,rfl,hj,rfl⟩:=C0;refine⟨_,rfl,_,rfl,c,_,_,_,rfl,rfl,hq,Bm (Cp O9m),rfl,_,rfl,?_⟩;ext fC
   . have h0:u j=0:=?a9
     have hlt:j<st:=Nat.lt_of_le_of_ne hj (?a21 b2 (z▸h0));refine⟨fun σ' G'=>Em fun(j':Nat)=>E5 (σ'=[rS c,?c (?d (j':Int))]) (H=G') (j'=j+1),?_,?_⟩
     . rintro σ' G' ⟨j',rfl,rfl,rfl⟩;exact⟨st-?bP,O9m,j+1,rfl,rfl,hlt,rfl⟩
     . exact⟨_,rfl,_,_,rfl,rfl,j+1,rfl,rfl,rfl⟩
   . have h0:¬u j=0:=?a9
     have hlt:j=st:=by
      rcases qh1 j st with h | h
      . exact ?W (b1 j h) h0
      . omega
     subst hlt;exact key _ _ ?x9
 refine Kb ?_;intro sq;exact⟨_,rfl,k⟩
noncomputable abbrev L5:Stmt:=top 64
theorem Ku:?aI [?gC,"i",?eN] [?gC] (Au L5):=Bj
theorem Y8[?aK](F:E4 K ?DE ?DE L5 f fd)[?aJ] :?WF [?gC] O7:=by
 refine ?X9 Ku;obtain⟨v,n,w,M,rfl,hv,hn,hw,k1,k2⟩:=h;obtain⟨ta,us,rfl,hq,Xl,On⟩:=Id hv
 refine⟨_,(Ae (B8 qb5 rfl (T3 (K:=K) ?w ?O9 (Aa ?z Af)) (Eh (K:=K) (n:=2) ?w (Bp (?a28 1 Ku.nd) (Bp (?a28 2 Ku.nd) Eg))) (Ah (B7 (Ek (Bf (Zx (K:=K) ?w) T.n_any BR (Aa (Cd (N':=?TT) (cap:=[none,none,?c 1]) ?w ?eK (T3 (K:=K) ?w ?O9 (Aa ?aO Af)) (?WJ (?a14 pX (?a28 1 pX))) (?WJ (Xy (Be Ij ?z ?aO ?cB))) (?WJ (Oe Ij ?Y Am ?cB))) Af))) ?rR Bl)))
  ?rR),?_⟩
 ext fE
 refine ?YN (fun σ' H'=>Ju fun o1 o2=>E5 (σ'=?RI) (?J) (?kM))
 . refine⟨_,rfl,ta,rfl,⟨us,hq⟩,?_⟩
   let Pq8:?jN:=fun i σ G=>Ju fun o1 o2=>E5 (σ=?RI) (?K H G) (?AS i w M)
   refine Z7 (K:=K) (a:=ta) (xs:=us) Pq8
    ⟨?H,?H,rfl,Same.refl H,fun i j hi=>O9m⟩ (fun i σ G _ hz=>by obtain⟨_,_,_,s1,_⟩:=hz;exact ?lR hq) ?_ ?_
   . rintro i v σ G p hv C0 hp
     and_intros
     ext VX;obtain⟨hi,b,rfl,hb⟩:=On i v hv;have sp:?K G (?JX):=?uS;ext VK;generalize ?JX=G1 at sp;have s2:=?B4 sp;refine(?Y1 b ?N8)
     let Pq9:?iU:=fun j zs τ G2=>Em fun(bs:?x0)=>Lk (zs=?zQ) (bs.length<=j) ((?vH↔∃c,c<j/\c≠i/\M i c≠0)) (?K G1 G2) (G2 D=?m2) (j<=w) (?Y3 ?c (?d ?cD))
     refine bQ (K:=K) (a:=b) (xs:=VI w (M i)) Pq9
      ⟨[],rfl,?aS,⟨fun z=>?LO,fun⟨c,hc,_⟩=>O9m⟩,?lZ,Ab,?a4,?H,?H,rfl⟩ (fun j zs τ G2 _ hz=>by obtain⟨_,_,_,_,g,_⟩:=hz;exact g.seq (?N8)) ?_ ?_
     . rintro j y zs τ G2 pr hy ⟨bs,rfl,hbl,hiff,g,D7,hj,q1,q2,rfl⟩ hpr;obtain⟨hjw,rfl⟩:=We hy;have gp:?K G2 (?F0):=?c8 hpr;ext CA;generalize ?F0=G3 at gp;refine ?LW;ext fC
       . have hji:j≠i:=by
          have:¬(?q2:Int)=?cD:=?a9
          omega
         refine⟨_,rfl,rfl,?G7,?fO (by rw[qa4];omega),bs++[!(?m (M i j=0))],?_,?kY,?_,(?TK).turn hD,Ab,hjw,_,_,rfl⟩
         . rw[qb4]
           congr 1
           by_cases z:M i j=0<;>simp[z]
         . rw[List.any_append,qq6,hiff];constructor
           . rintro (⟨c,h1,h2,h3⟩ | h)
             . exact ?QV
             . exact⟨j,O9m,hji,?oH⟩
           . rintro ⟨c,h1,h2,h3⟩;rcases qh1 c j with h | h
             . exact ?g ⟨c,h,h2,h3⟩
             . have:c=j:=O9m
               subst this;exact ?k (by simpa using h3)
       . have hji:j=i:=by
          have:(?q2:Int)=?cD:=?a9
          omega
         refine⟨bs,rfl,O9m,hiff.trans ⟨fun⟨c,h1,h2⟩=>⟨c,O9m,h2⟩,fun⟨c,h1,h2,h3⟩=>?QV⟩,?TK,?G7,hjw,_,_,rfl⟩
     . rintro zs τ G2 ⟨bs,rfl,_,hiff,g,D7,_⟩;rw[Bu]at hiff;refine⟨D,bs,rfl,.of D7,_,rfl,?_⟩;ext fC
       . have h2:?vH:=?a9
         obtain⟨c,c1,c2,c3⟩:=hiff.mp h2;exact k2 (?a21 c3 (z i c hi c1 fun e=>c2 ?hA)) _ (?r7 g)
       . have h2:¬?vH:=?a9
         refine⟨_,_,rfl,?r7 g,fun x c hx hc hne=>?_⟩;rcases qh1 x i with h | h
         . exact hS x c h hc hne
         . have:x=i:=O9m
           subst this;exact qg5 (?a21 h2 (hiff.mpr ⟨c,hc,fun e=>hne ?hA,z⟩))
   . rintro σ G C0;ext VX;rw[Xl]at hS;exact key _ _ ⟨_,_,rfl,s1,hS⟩
 refine vX fun o1 o2 G s1 hS=>?_;intro sq;exact k1 hS _ s1
noncomputable abbrev P0:Stmt:=E8 (top 69) 3
theorem cC:?aI ?xY ?xY (Au P0):=Bj
theorem CN[?aK](F:E4 K "lift" "Book.lift" P0 f fd)[?aJ] :Bw P w K mg ?S Ex 1 f fd ?xY (eV K Aw):=by
 refine ?X9 cC;obtain⟨p,k,B,xs,ls,rfl,bk,sB,hk0,hk1,kq⟩:=h;obtain⟨dx,P,Lv,Lf,lu,wu,hp,_,_,_,hLf,dd⟩:=bk.ob;have hl:?YZ ?mD wu.length:=dd.1.symm;refine(?a15 (Ct Hg ?w ?L5 Eb (Aa (Ba ?l1 (Bd (K:=K) ?z) ?Y ?aB) Af)));obtain⟨v,hv⟩:∃v,wu[k.toNat]?=?b3:=⟨_,qa0 (by have:=Vq ?cK ls;omega)⟩
 obtain⟨c,rfl,_,hc⟩:=dd.2 _ v hv
 have hat:DZ wu k=?c (?d0):=by
  have:=Bm hv
  rwa [show((k.toNat:Nat):Int)=k by omega]at this
 exact⟨_,rfl,p,Aw,dx,_,_,rfl,sB _ _ hp,T.cl_Book,T.na_Book_lifts,rfl,_,rfl,Lf,wu,_,_,rfl,rfl,.of (sB _ _ hLf),hat,c,_,rfl,?g (sB _ _ hc),fun D hD=>kq D _ hD (?lZ) Ab⟩
end
mutual
#check(4,[?a,?b,some,base,.int,.ref,(?kL),Same,(pv 0),none,(fun key=>?_),(pv 1),.inl,rS a,(pv 2),.lst,(pv 3),F.okZ,.inr,(Bk _),fun Dp A outer s H vs Q E hr h=>?_,FnScope,∀(T:?HT),a,∀{f:Addr}{fd:FuncData},a,rS p,(fun _ _=>rfl),.tup,Same.new,rS D,.(by decide +kernel),(pv 4),.(by infer_instance),T.cl_Work,Rep.same,putF,T.cl_Stairs,.(by decide),.ins,spot,rS la,(?WH Bc),(i:Int),.(by and_intros),(?P9 Ev ?z),.(by ext T),.(by simpa using h1),if_neg,(?VB ?l),(?P1 Bd ?i),(by ext Z),V.int,.(by kernel_rfl),"shape",iS k,W.findIn,"table",Nat->?dU->St->Hp->Prop,.(by simpa using this),decide,(fun _ _ _ _=>Cf),(?P9 Gf (fun _ _ _=>rfl)),(?V8 Fp),(pv 6),if_pos,"self",Reps.same,T.n_range,.(by ((repeat (first | rw[As,?bI] | ext sR))<;>first | rfl | assumption)),.(by rintro σ G C0;revert σ),(?P9 Ik (?CJ)),(Aa ?i Af),Cb (?bU),(Az (K:=K)),(pv 5),T.n_len,rS hd,Nat->St->Hp->Prop,cK ms,qa8 _,fun D hD=>?_,?e6 O9m,.(by refine ?dP (fun h1=>?_) (fun h1=>?_)),(Aa ?o Af),rS tp,(i+1),(k:Int),(u1 Nu),rS ga,(?K),"width",PW.pt,rS L,H' D,?e i,V.ref,?c v,(D:Addr),.(by refine⟨_,rfl,_,_,rfl,rfl,_,rfl,?_⟩),.(by refine⟨_,rfl,rfl,_,rfl,?_⟩),.(by exact nomatch hl),.(by simp;omega),H=H',iS fam,rS b,(?hI),Reps,?aB rfl,"number",.of Ab,SameX,iS i,s2.trans,?c ?j,hc.1,.(by refine Kb ?_;intro sq),(?WH Bh),T.na_Stairs_rows,(?VU rfl),.(by simp),?c (?vL),?uZ V,?e q.2,fun a ha=>?_,?m rfl,(by ext D),Ai z,(-(B / g)),(Aa ?i ?V),(pv 8),"turn",[?aC],Kp.upd,"__init__",Cz.nd,?B hp,(?TG ?E),R.same,"thing",g.trans,"place",.(by ext cT),?T4 ?aX,c%1000000%4,?B hD,Cq.nd,rS p1,(?VC ?W ?l),?c ?K4,?c o,.of et,.(by exact ?y1),.(by have Nu:=hr.u8),.(by rw[?CA]),.(by simpa using h2),(pv 9),B9.nd,"rows",Rows,SameX.upd,Do xs (?dF),(G8 Af),(?Q1 ?aP),fun hnd o=>?_,(0:Int),T.cl_Lines,T.cl_Book,(?gL),?T4 ?uQ,l.prog,s1.trans,Bz.nd,.(by refine ?QK ?b0),T.n_isinstance,R.same.seq,List,?aX+1,rS ta,L4.nd,for_list,?d3+?P,.of ?lA,"other",(?f Ag),T.n_dict,(?fM,Lat.one),ite2,[?aC,?cW,?gD],(f+d),Dv.nd,"_law_shape",?dE V,?c q,?c (?e ((?hG:Nat):Int)),(?VB ?aL),xs.getD,iS p,.(by refine ?QK ?m4),.(by rintro _ _ ⟨rfl,rfl⟩),.(by refine ?QK (?bU)),?TA ys,SameX.of,rS E,small,?f D1,"blend",(?WM ?gA Am),[?aC,?c5],List.replicate,?H s1 hL,?d9 s2,Lat.Mat × Lat.Mat,fun Mh=>Mh _ _ ?G4,(?h H H2),T.na_Work_table,"_law_family",(?TG ?o),"left",T.na_Work_numbers,"_law_total",(upd H2 R1 (?p (lu++ru))),s1.seq,?U (fun z=>?oL (z▸hm) ?c0),W.keepIn,rS nn,(?hP=?e3),T.n_list,(?hU),Er.nd,?f D2,?e q.1,?cE g1,?e (?pZ),?c 1,(?TG ?aL),Cc ?fC ls,Ax w fam,T.na_Stairs_starts,(?VB Am),"_law_place",(?VB ?q),.(by obtain⟨dx,fs,hp,l1,l2,l3,l4,l5⟩:=lx.ob),.(by obtain⟨q,hq,rfl,rfl⟩:=Le hx),.(by by_cases z:c=b),.(by rw[qa4];omega),xs.length,Ay m q,(?f Ac),"one",R2.same,(?TG ?l),T.na_Work_left,[(pl,1)],[?a3,?b1],rS tl,Lat.one,[?aC,"i","j",?fF,?dL],(?VB ?E),"law",?qQ p.toNat [],?TA ws,hc.2.2,"chain",(?hP=none),?f a,Same.refl,?V0 ?yC,?e ?xL,as.map ?b6,(qb0 hq),Dw.nd,(?h H H1),"row",Do xs 0,Dd.nd,"_law_word",(?f Aj),(Ca _ _ _),(.dK []),(pv 7),cK ns,[?a0,"k"],"backs",hc.2.1,(?VB ?W),Db ws ?m2 (?wH m),s.1 i,(Ba ?O ?W ?o ?z),(w.length:Int),s1.free,A / g,iS letters,?cY (SameX.refl _ _),Kp.of,c≠D,q.1.toNat,C6 ?HR,.(by have hi:=?pE),.(by revert σ;refine Wv ?_),.(by intro z;cases z),"pieces","_law_script",x.same,l4 _ ?c0,(w+n),"papers",(?RE _ ?_),qj2.mp,TI.mk,(?OR ?aI),(?k5 hx).1,Fn ws (?vS j),?m hq,fun m hm=>?_,s.1 i (?hR),ws.map tI,T.na_Work_right,(?hG),K.lookup,k H1 s1,rS tg,Do xs k,"numbers",?UE H,"list",s2.free,.(by ext j4),(?p []),?bN s3,?f T1,H1 D,Rep.x,t ?M,?c ?oI,LT.get,spot+1,?SN H,?dY i.toNat [],List.range,(ws:?dU),mainGlobals,[?cD],[none],(m:Ms),(?P6 [o]),?f p1,(by ext gU),?h3 ?_,(?VB ?aA),s.1 ?M (?hR),(?fZ),"told",(?WH Nc),Nat->Int,hm.n,(?zI),(by omega),.of xB,?Y 0,(?WH Nb),?e6 (by ext fB),"right",bo.1,(R8 xs ms i),?T4 ?q4,fun E hE=>?_,(?UJ ?i),(?S6 rfl),?f ta,Ai n1,Ai n2,(Du m),.(by refine(?PH p)),.(by exact k H (?fW H)),.(by revert σ;refine Wu ?_),.(by refine ?h1),.(by rintro i σ H2 hi C0),.(by have:=?h5),.(by rw[e2]at k;exact k),.(by rw[Ai ?o8]),.(by rw[Ai n];exact e),.(by simpa using h4),(?mP),fam=0,(?P1 Ce ?i),qa4 ..,(?VB ?gA),c≠b,(Jq m f),Cb ?m4,g1.trans,w.take,(?E9),Dy xs (k-1),"_law_level_here",(?VB ?gI),?c 0,bs.map ?b6,"_law_k","_law_words",cK ?iE,(?f Aw),?c (?e ((?cZ:Nat):Int)),p.2.2.2,Id hv,.(by ext j0;ext a5),lookI,ps.take,qa0 hi,"tuple",(qh5 _ _),xb.2.2,(?z5),(?WH Eu),Bm oE,Ax ?lE fam,ms.getD i (0,0),rS fi,qa2.mp,wF (Ay ?kS) ?iE,b.2.1,.cons,(?V0 e),?B hT1,sL.seq,(o:?bW),?V0 hp,(?OU Mz),?UE G1,"_law_holes",R3.same,[?a0,?cD,"level"],?dY ?gQ [],(?WO ?gF),.(by rfl),Lat.turnL,?h G H',?jD g2,(show spot<n by omega),?dE Int,?T1 i,b.2.2.1,[?aC,"i"],⟨[],rfl,rfl,?uJ hD,?j,rfl⟩,sH.trans,.(by simp at e),["parts"],K6 ps i,Fa.nd,(?fV),"_law_chain",Dy xs k,"lifts",(?V8 ?o),Wi.of,(?UU ?_),(Kt K Ag Ac Aj),fun e=>?FT,fun c q e=>?_,xa.2.1,Cs.nd,(?hO),(?gN),layer[j],(top 63),R.free,((j+1:Nat):Int),LT.len,(top 58),(?hX i).map,?s rfl,.(by obtain⟨tva,jA,iW,hpa,l1a,l2a,ZC,l4a,wW,l6a,l7a,_⟩:=x.ob),∀(C7:Has P w K mg ?d ?p3 ?fK 2 (Io K)),a,.(by rw[?DW]),.(by refine ?dP (fun h2=>?_) (fun h2=>?_)),.(by subst z;rw[hb]at e;cases e;exact Ab),.(by rintro i kk x σ G hx C0),∀{α:Type}{P:?dE α->Prop},a,.(by exact fun z=>?JI),.(by revert τ;refine Na ?_),.(by obtain⟨s1,_⟩:=hz),∀(us:?dE α),a,(c':Int),s3.trans,⟨T1,_,rfl,?bK,⟨_,_,rfl,rfl,_,_,rfl,rfl,_,_,rfl,rfl,_,_,rfl,rfl,rfl⟩⟩,"piece",ns.map ?Y,(?KA),.(by rw[qb4];rfl),(by ext bC),(?x0),p.1=1,σ'=[?y,none],?SJ O9m,iS kind,.str "add",fun C hC=>?_,(?B WJ).turn,s2.seq,"lines","many",(eG ?iE q),a=q\/N a,[?fF,?dL],?B hE,(?o6).1 i (t ?dR) / s.1 ?dR (t ?dR),fun r' b' G2 sx n1 n2 z=>?_,[?aC,?a3,?b1],s0.free,.(by have:=r.length;ext a5),?U2 D,"places_of_level","_law_level","check_level",((?hR:Nat):Int),fun _=>False,Lat.blendR,(?P1 Bd (Bd (K:=K) ?o)),R.same.trans,(?jV),ns.getD i (0,0),"_law_without_noughts","__setattr__","_law_face",?c 2,"_law_chain_is",Kc lf (?jU j),?U hf,"diagonal","stepped",.(by ext cS;exact El),"is_chain","bases_of",fun l=>[l],R2.same.free,g.free,(w.length=i),"is_place_of_level",Ai nD,R2.free,T.na_Lines_rows,"turned",iS most,T.na_Stairs_backs,(?OU My),["k",?uB],G c=?dV,"_law_holes_are",(?B9 i j 1 l),sp.zip ns,(?P1 Oj Nu),"_law_sum_of_piece",R1.free,?U h3,"chain_of","border_table",(?p [?e 0]),⟨?kL,?kL,?kL,?kL⟩,qg1 _ O9m,?lY s4,PySem.W.hasDictIn,?d9 sp,(Ah Ty),?yW t i f s d,"is_table",fun z=>?_,(?f2),"fits",?V0 hb,fun c r n e=>?x2,(?c M),(qi7 ?g8),"ones",PySem.W.plainOver,[?tY],(?p us),(?f3)[m],(as.length=i),absurd,(xs.length:Int),g1 _ _ D7,"plus","_law_weighed",(v:V),"first_misfit",?uZ L2.V,nb a ha,PySem.W.makesIn,[?cD,?mF],((ds.length:Nat):Int),Sv d f l r,(?vV),"product","_law_words_with",?v9 1,[?cD,?b1],"flipped","_law_shape_by",T.n_all,fun a ha z=>?_,xa.row,((spot:Nat):Int),[?e g,?e a,?e b],(?Q1 ?pM),Ai m9,(?f Gu),k01.trans,(?k5 hv).1,cK p.2.2.1,(?P1 Ol ?g),(?tX),s3.free,?cE EF,?U ?iF,?f t,cK cs,i+1+j,(Aa ?h4 Af),s05 _ _ D7,(pv 11),s.1 j,?e p.1,?jU i,[?a0,"k",?g3],(?kJ).length,Jo.mp hnd,W.codeIn,"is_list_of_wholes",?CP f k0 i,?c ?d1,?c (?c (?H5 "object.__setattr__")),PySem.W.plainGet,.func,(m:Int),?ST m,[?a0,"k",?cF,?bJ],(ys=?fZ),iS c',T.n_enumerate,?f ga,(w:?kQ),⟨_,_,?j,[],rfl,?B hp0,?h3 (?bK),rfl⟩,(?UE H2),"lifts_of",i<xs.length,.none,[?a0,"k",?cD],?f b,(cJ (n:=8) Nu),(k0:Int),((i+1:Nat):Int),kL ?_,"is_shape",?P1 ?p7 hi,Str.empty,lf.getD,?dE Addr,ys.length=i,dd.same,[?gW],layer,["_law_found"],upd G e (?OX ?fJ),hH.same,"_law_whole",[?cD,?uB],R.push,"is_chain_of_some_level","without_borders",[?gW,?jL],(?jG).length,w.length-1,[?aC,"k"],(w:Int),dU ?HR,¬N a,"list_times",?c q.2,((i:Nat):Int),"parts_of",fun q=>?_,T.na_Work_width,(tO i j g a b f r),op_mulX,?SN H0,W.fnOf,?eO hq,"_law_cell_at",(?l2).length,[?a0,?cD,?uB],"add_faces",?SJ h1,Q7 _ _,TI.same,"_law_word_by","is_part",W.nsIn,Ay ?kS p,⟨_,qa0 O9m⟩,"_law_plus",Cc ?fC (ls.take i),T.na_Lines_backs,fam<0,"border",T.m_Lines,?U ?c0,"_law_border_by","is_whole_below",(TI K H2 v w),(?M7),[?fF,?dL,?b1],"_law_faces_by",(FU ms n ns i),σ'=[?y,?dG,?cN],["_law_piece"],R2.same.trans,(?WH Ub),Go.nd,.(by refine⟨_,rfl,_,_,rfl,rfl,?uV,?aQ,fun p0 hp0=>?_⟩;refine ?KT),.(by rintro σ H2 C0;revert σ;refine Wt ?_;intro c' v o w s2 tv hwl Ei;exact⟨_,rfl,k v H2 w s2 tv (hW w hwl)⟩),∀(Bt:Has P w K mg ?d ?mQ ?gC 2 (D8 K)),a,.(by rintro i x ys τ H1 hx C0;revert τ;refine Na ?_),.(by refine(?R8 a)),.(by refine⟨_,rfl,_,rfl,O9m,O9m,?aR⟩),.(by rw[?SD ?dJ ?P]),.(by refine Qh ?_;intro o3 hz1 Ei;subst hz1),.(by refine ?dP (fun h4=>?_) (fun h4=>?_)),.(by refine ?dP (fun e=>?_) (fun e=>?_)),.(by rw[As,?s4]),.(by refine Ii fun G1 g1=>?_;intro sq),.(by obtain⟨Pj,Ld⟩:=T.x_LEVELS),.(by obtain⟨i,hi,rfl⟩:=qg4 ha),.(by obtain⟨as,xa,na⟩:=lx.rw),.(by obtain⟨sQ,sP,sm3⟩:=x.sm),.(by refine Qh ?_;intro o4 g Ei),.(by rw[?bI,Ta];simp[h1]),.(by injection this with this),.(by replace hrep:=hrep _ rfl),.(by revert τ;refine KJ ?_),.(by rintro i v σ G hv C0),.(by rw[qa4,xa.1];exact hi),.(by rw[qa4,xb.1];exact hi),.(by rw[qc8]at this;omega),.(by obtain⟨g,_⟩:=hz),.(by rintro i σ G hi C0),[?mE,?c5],fun(k:Nat)=>Ov xs ?aX ms,Lg xs ms i,(F7 Am),Zp ?M i (?i8) (?h9) g a c s,U m M l r,qa6 (Gp ..) E3,?U h1,[?a0,?vI],s3.seqT,(?l2).getD,(f+d:Nat),[?fT,?xF,?bJ],?bN sp,(gp:Int),g4 _ _ D7,?c (?pS),(s:?eE),xA _ _ D7,g _ _ hp3,"_law_other",Do xs ?aX,tK _ _ _,?QK (pV O9m),.(by rw[Bu]),w.map ?Y,"size","meet",[none,?jJ],fun D2 H2 Mw s2 h2=>?_,g1 _ _ et,belowD (?b5) b,"step",?c (?e (n:Int)),[?a3,?b1,?mE],"filling",?Q4 El,(pv 10),T.n_tuple,"bound",R1.same.free,i<w.length,x3.tup,"holes","put_in_order",σ'=[?y,iS ?M,?bM,?T4 ?mT,?T4 (?i8),?T4 (?h9)],[none,?f0],Rows.nil,?TA (?jK),?TO G l,.of x.nu,[?GN,?l1],upd H5 p (?L Aj dx (?P5 E)),sG.trans,(z:Int),(o8:?bW),?h9 / ?i8,[?a0,?cD],Lat.Shares,⟨?K,?K⟩,.ad i ?M (-kk),?RJ H3 [?mA,?fY,?vL,?e ?EM],.(by rw[hfs];ext aF),Option,?H Nd hrep,"shrink",sB6.trans,Str->?uZ Value,sY.same,?d9 s3,?tI i 0,Ay m4 q,?RJ G [?mA,?b5,?e (?tJ:Int),?e (-qq)],w.drop,s1.seqT hq,fun w=>?vZ,fun T1 hT1=>?_,qa0 ?iF,"_law_one",H' p=?U9 Aj fs,[?yU,?H2],[?x6,?eI,?MB],"bases",x4.tup,.(by have:=hm.len;omega),?e ?P,s1.turn hD,qa0 hmf,"spot","Lines.blend",(bu:?dU),?a6 (i<b),rows.take,"gauges",.of y.st,σ'=[?y,?bM,?T4 ?p8],na a ha,?e6 ?m4,"loops",?EF fun f=>?IB,xb.there.2,Bm hv0,[?CO,?MK,?EA],?dY (?k3).1.toNat [],"loop",?aB h1,i<ns.length,(st:Int),Ay gs q.1,(Fc Af),(us:?dU),s0.trans,?jE i++[(w.getD i 0+?wU)%fam]++?v9 (i+2),?m Mw,?OM (?UU s1),(?fZ).set,?dY j [],(?k2).take,fun t ht=>?_,(as:?qR),?c ?hM,(ys:?dU),lx.keep s1,[?a0,"k",?h0,?vY,?vT],σ'=(?VH o7 ?C),[?jM,?g6,?eI],(TA.of R hcl).same,h4 _ z,(?k2).length,(t:?IH),w.getD ?aW 0,?e w[i],Zn ?b0 ?b0,.of El,"Lines.turn",(?eD).turn hD,ls.map Rc,[?aC,?cD],.(by ext j3),upd (upd G1 dM (.own L')) L' (?L Ag dM []),?a6 (0<=i)&&?a6 (i<?oM),Jq m ?L6,"_law_cell",acc.map tI,[?aC,"i","first"],[?dT,?jH,?kG],qa0 hjl,?RJ G3 [.str "minus",?e ?p8],Wi r b H1 G,[?a0,?fT],(x.same.trans s1).free,"faces",?UE H5,(Ff K),[?dT,?l1],W.isFn,fun D H1 hD s1 El=>?_,(j:Int),?QV ?hN s4,(o6 o7:?bW),H1 c=?dV,[?dT,?jH,?C2],upd G p (?QQ nv),fun IQ=>?_,T.n_zip,"share",(o7:?bW),[?dT,?f6,?kG,?yI],"shrink_row",?TA zs,(?DX,s.2),(?k5 hq).1,Fw fam w,?OM ?G4,fun i=>?wC,T.na_Book_pieces,(?VU hq),?RJ H [?mA,?vL,?fY,?e 1],?dE (Str × V),oB.trans,pv.same,.of hu,qr1 _ ?b0,[?hH,?a3,?b1],xb.2.1,pc.lfo,"straighten",[?vE,?IV,?tS],(pv 12),.(by ext cS;exact D7),"_law_lifts",upd H4 p (?QH E),g3.trans,[?g6,?eI],?RJ H [?mA,?b5,?e ?M,?e (-kk)],?m ha,.(by rw[Bu];omega),trivial,.(by rw[Ab];rfl),?TA bu,.(by rw[QF];exact h3q),fun p hp=>?_,(?gV,?f P),[?aC,?vO,"i"],Lat.shrS,?f la,fun q=>(qf1 _).symm,.(by split<;>omega),Pi xs (?dF),MT c r n1 n2 e,[?aC,"i","j"],?V1 hD ?cJ,qa6 (Gp _ _ _) E3,?h H G,(z▸R.free),(K w.params).In,?d9 kD,(?k5 hy).1,"bool",fun i=>?GI,[?g3,?b1],R4.same,"put_in",fun G2 g2=>?h1,Bm hat,b.1.toNat,Ds xs p,fun c r n1 n2 e=>?_,(Dz ((?nS).take i)).length,.(by revert σ;refine Wt ?_;intro c' v o w s2 tv hwl Ei;obtain⟨a,rfl,Xm⟩:=tv.sq;refine ?EO;have s3:?RH pt (?A [?e (?F5)]):=?B zL;refine ?B0;refine ?DB;refine(?SP [?F5]);rw[qb4];exact q3),.(by exact⟨?MH,?iJ,?CT,?BI,?m3,?r1 Mw s2 (by rw[hal];exact h2),_,rfl⟩),.(by refine ?OJ (?VM [?n,?a1,?C,?T4 (?kY),rS t])),.(by rintro ys τ H1 ⟨as,hal,rfl,R,_⟩;exact k D as H1 O9m R),.(by refine(?PJ t ?cP)),∀(Cv:?PP P Ac),a,.(by obtain⟨tv,dx,fs,hp,l1,l2,l3,l4,l5,l6,l7,hrep⟩:=x.ob),.(by refine(?PJ ta hT1)),.(by refine ?QK (fun z=>nomatch (show false=true from z))),.(by rw[qa9,?jV]at hx;rw[qa3,?jV];simpa using hx.symm),∀(Ja:Has P w K mg ?d "mixed" ["a",?fF,"b",?dL] 1 (Tk K)),a,∀(Ib:Has P w K mg ?d ?mR ?sD 1 ?xH),a,.(by obtain⟨r1,b1,r2,b2,lx,ly,f1,f2,f3,f4⟩:=x.li),∀(F9:Has P w K mg ?d ?MF [?m0] 1 ?xH),a,∀(Ga:Has P w K mg ?d ?KJ ?i0 1 (Jl K)),a,.(by refine⟨P,_,rfl,?m (.of hP),?_⟩;rw[qa4]),.(by first | exact Or.inl rfl | exact Or.inr rfl),.(by rcases ho with⟨_,q⟩|⟨_,q⟩<;>cases q),.(by obtain⟨ci,_,oE,_,mX⟩:=?qO),.(by refine(?PA b ?aP)),.(by have hlt:?GW:=?xZ),.(by rintro ys τ H1 ⟨s1,El,rfl,_⟩),.(by refine Ii ?GX;intro sq),.(by refine Ii fun H2 EG=>?_;intro sq),.(by intro s1 El hz1 o Ei;subst hz1),.(by rcases ha with rfl | rfl | rfl),.(by intro sq;have EF:=?kO),.(by refine ?SI ?m4),.(by obtain⟨r,b,lx,_⟩:=y.ex),.(by refine Qh ?_;intro o1 y Ei),.(by rw[hlen];rintro ⟨_,z⟩),.(by rw[hlen];rintro ⟨z,_⟩),(G8 ?f5),(Q0 ?o),(?jE i).map,[?n,rS af,iS n,o1,o2],(?UW none),(EV K Aw),fun hS G1 s1=>?h1,?P1 x.row hi,(e▸ha),"is_straight",∀w:?kQ,w.length=(?cI).toNat->?y0,⟨bu5,_,rfl,s5,WZ,?_,qR⟩,"Stairs.__init__",IM ?iD o1.n,Oa eF r4 t4,lx.nn a ha e,M8 xs k p n,?R7 s03.free,(?J7).length,⟨a,pt,_,_,rfl,rfl,?tH Xm,?bK,?jC,fun p3 H3 s4 q3=>?_⟩,VI z (?CP f k0),.(by rw[ql6]<;>rfl),⟨D4,m4,o7,o8,?j,rfl,nD4,?fW H4,eF,hm4,?yY⟩,MZ _ _ hLr hLb h,(hl.getD j []).map,Ho ms fs n i,Int.dvd_of_emod_eq_zero,T.na_Book_levels,Lat.addS,sp.trans,?BG=false,.(by simpa using h6),"_law_more",.ad i j 1,(Ao (s2 _ _ hD) R3.free).symm,Z8 xs (?A ds),(?hP=?xX),.(by simp[hal]),(z▸Mw),l6c _ ?c0,(us.length:Nat),fun c q e2=>?_,x.keep s1,"Book.__init__",(?PA b ?gB),"levels",.(by rw[qc3,hcl];rfl),?h G3 G4,(o1 o2 o3 o4 o5 o6 o7:?bW),fun D2 H2 n2 s2 e2=>kq D2 H2 (sG.free n2) (?uP s2) e2,fun QT=>?_,(?oT).2.1,m<fu.length,fun p=>M8 xs k p.1 p.2,(P4 ?l),z.there.1,.(by rw[qa9,?vN];rfl),"_law_thing",.(by have:=rM.length;ext a5),w.length=1,⟨hz,O9m⟩,ms.length,upd H c ?pA,"Stairs.shrink_row",?bL p H3 H',Ai m9.symm,?k8 ?bT (?k8 ?bT (?k8 ?bT (?k8 ?bT (.nil)))),.(by simp[hwl]),?M9 w M P,"Work.straighten",R.same.free,[?n,iS n,?bF,?C,o4],wF (Ay gs) (cs.take i),?rK ?fP ?fP (Ji Tw) (G6 Tw) (Au Tw) ?qG WW XC WG XF RO XD,fun _=>rfl,?aD sa rL,(z▸R2.free),g1 _ _ SR,?H g hL,"_law_kind",Lat.numAt,(?TZ ?C o7),G5 c=?cO,G D=none,as++[D2],.(show((k.toNat:Nat):Int)=k by omega),(?lY TR),"_law_size",?c (?eX),[?e g,?e a,?e c],(?f pa),(?x4)=true,fun i=>r.1 (k0+i),nb a (mb a ha),gp _ _ D7,(?k2)[m],Xv q.2 m,fun G4 fs hfs zT=>?l6,fun c q n1 n2 e=>?DI,(VI m f).set i (?e g),[?y,o1],layer++rows,⟨_,rfl,_,rfl,_,_,rfl,rfl,⟨hb0,hb1⟩,?_⟩,sL.seqT hT,((ON.length:Nat):Int).toNat,(?BL:Int),?P1 xb.row hi,(G b=?q0),(3:Int).toNat,.(by rw[?iS];exact e),?cC _ _ hp,Jq m (YG i j g f),(?PE hD),?m (?JR),Fe (?LU),?SN G1,Lat.moveS i ?M s,(la:Addr),.of xp.2.1,Lat.insT,?Q3 ds.length,(?cI:Int).toNat,(if ?r8<?DE then ?r8 else ?DE).toNat,.(show((k+1:Nat):Int)=?dF by omega),fun x a=>s.1 x (w+a),MT c r z n e,(?pD k19),o3' g' a b sh,?p1::(?lK ?y2),g _ _ hpa,fun pa Ha sa qa=>?_,Fe (?wG),"add_at",fc∈acc,a=nm\/a=r2'\/a=SV,l6a _ ?c0,upd H1 p (?L C dx (?R3 fs)),"_law_most",fun D' G1 wM g1 zU=>?_,(o2 o3:?oS),?SN H3,Cls K C/\Dn K C ?cW/\Dn K C ?gD,(?f3).map,(?gG).length,(?eY).turn,L1.binds (ps:=?eA) ?R,oX.trans,"_law_i",fun _=>0,(-(?IM)),.of (?E2),⟨_,rfl,_,rfl,_,rfl,_,_,rfl,rfl,hb0,?aJ,fun pt zL=>?_⟩,(AV K Aw),Db ws ?m2 (?wH (m+1)),(Fe [0,2,3,4]).any,fun c hc=>hb.1 c O9m,"_law_hole",fun T hT=>?_,oX.free hnm,C6 ?K2=i,g1 _ _ e3,.ad j i ?EM,"Work.put_in_order",LT K G ?l0 xs,(mC p q),⟨_,rfl,_,_,rfl,rfl,?_⟩,w.length=0,hW.2 i v ps e1 e2,c'%letters,qg1 _ (Int.le_of_lt h2),Fe (?kJ),upd H1 D ?g9,[?n,?a1,?aV,?N,?aZ,?d7,?dW,?eR,?fL,?hF,?k4,?C,o12,o13,o14,yQ],(?c ?r8),?RI B (?jK),sa.seqT hq2,"start_of",Km.binds (ps:=?fN) (?P9 QZ (fun _ _ _ _ _=>rfl)),?H g1 iU,upd H5 p (?SS Lf),fs.map ?Y,hok b (qb0 hb),(?IA).length,(?jK).set i (?f D3),j<ns.length,(?sE s67),?Q3 xs.length,(?RE ?j x),?I ?cW (?b6 D1) fs,p.2.2.1.take,Nd.seq hq,(x2.same s3).there.1,Dr xs e (?gR-1),?c (?eZ),"Work.share",?gP->H c=?dV->?xO,(?pT).map,fun j hj1 hj2=>?_,s5.trans,[?n,?bF,?C,o1,o2,o3,o4,o5,o6,o7],.(by simpa using hi),(?UZ none),.(by have:=o1.len;omega),(?UU rfl),hmul q ?g0,dd.keep fun c kvs e0 e=>?_,(?b4=?wK),"faces_agree",Nl (ws:=ws) (fam:=fam) (layer.take j) [] (fun u hu=>hWl u (qp6 hu)),(ws.take i).map,?U2 D2,l6 _ ?c0,[none,?n3],"numbers_at",.(by obtain⟨_,_,_,e,_⟩:=hz;exact e),?wF i (?e7),(ls:?dE (?dE Bi)),?jE i++?v9 ?aW,(z▸z1),EF _ _ D7,Heap->Prop,s2 _ _ Ab,"_law_gauge",x.fr.2.2.2,?h H0 H4,.(by rw[qa9,?xA];rfl),"is_list_of_few",⟨?aQ,?cJ,Ab,rfl,?j,rfl⟩,⟨ws,_,_,_,_,_,_,rfl,g,D7,dd,Zr⟩,a=nm\/?MJ,?k6 / b.1,i<ms.length,fun H1 s1=>?_,Fe (?HW),?SD (?dJ) ?rD,∀o,H c=?cO->G c=?cO,g.natAbs<L9,(?BQ,?f Lv),(?PZ _ ?_),"Stairs.shrink",.builtin,(z.same sn).there.1,R8 xs ms ?C6,?qQ ?zH [],?SN H2,?rS s3 tx,(o12 o13 o14 yQ:?bW),upd G' p (?A [?b5,?eZ]),ok d O9m,?eB us.length true,(P:Addr),(top 69),fun g' a b G' sh z'=>?_,⟨hW.1,fun i v ps e1 e2=>?_⟩,?e6 (?yO),h2.length,?RO (cK q.2.2.1) h2,upd G E ?g9,YH _ _ x.nu,upd H4 nm ?hM,(?q4-(?P+1)).toNat,?QZ H,ds.length,Lat.blend_row_ne,Fr K mg Ag Ac Aj Aw,.(by obtain⟨_,_,e,_⟩:=hz;exact e),fun key=>?y1,?dY (i:Int).toNat [],?PS ha1,Lat.ChainTo,ns.length,?QK ?c0,Et FY ?g0,R.row i _ ?mY,upd G1 t (?QQ nv),upd G1 c (?RM ?P),hm.lp o1 _,H4 a=?cO,.(show(1:Int)=((1:Nat):Int) by omega),?SD (?dJ+1) ?qL,F1 ms (ns.take i),?I ?a3 (?b6 E) fs,(dD ws f:Int),(F7 ?gA),fun F hF=>?_,fun e=>eqD e (?e (ds.length:Int)),.(by rw[qa3,hq];rfl),?mT<=?w7,Nat->Nat,((d:Nat):Int),g3 _ _ UZ,"shared_divisor",fun c hc=>?_,b*f j / g,xb.there.1,(G D=?e3),.(by have:=pl 0;omega),"Lines.__init__",fun B hB=>?_,x4.right,?PG G' s',(?dY pl.toNat []).length,"_law_number",qa6 ?g8 ?oE,?S0 El,(?b4=?fR),upd H1 C ?oI,?TM H',sx2.same,g2 _ _ iU,U1.of9 O9m h3,[?n,?bF,?C,o1,o2,o3],tI xs[i],(Q0 ?l),?I ?eK (?b6 L') (?IA),fun P H2 nP s2 hP=>?_,(?gJ-1).toNat,fun H2 s2=>?_,Lat.downS t i s d,xs.take i,fun H1 s1=>?h1,Kp H3 H',.(by simpa using h3),⟨O9m,O9m,O9m,fun c hc=>?wW⟩,hk1 c r n1 n2 e,.(nomatch z),⟨_,rfl,rfl,?_⟩,(?PE hDk),upd H1 l1 ?nZ,Ao hb hD,?U2 B,⟨uN,wJ,LR⟩,?H ?cC hv,"Work.step",.of x.st,?h HL H1,"column",qk1.mp hq,na a (ma a ha),(?oT).2.2,⟨rfl,fun i v ps e=>?kW⟩,TA.of R1 hl1,?eB (VI n f).length true,(top 55),m5 _ ?c0,(?wG).length,upd G p (?A [?b5,v]),(?e ?r8),fun G1 g1=>?h1,.(fun c o e=>by rw[?SL hZ,?SL hZ];exact e),"Stairs.meet",base.Ns ?hZ mg,?bL p H H',?V2 (layer.take j),fun G' z=>?_,"one_row",?rV K ?hZ s,"Work.__init__",?PS dG,Oh ws fam 4 [w] [],us++[?pL],(spot<=i),"is_whole",lvs i hix,IntMulOk,m4 _ ?c0,?SN H1,"Book.holes",?rN<=1000,[none,none],⟨_,qa0 (by have:=rP.1;omega)⟩,?eB (z-k0) (?iH),⟨_,rfl,_,rfl,O9m,O9m,?_⟩,upd H L (?p ?i9),.ad i ?dR (-qq),.(by rw[Lr]),(qb0 hq2),(?f3).length,(?RE ?j rfl),(?B ndl).turn,Fw fam u,"across",sp.getD i 0,[?f D,?f L'],fun tp htp=>?_,fun k=>if k=i then g else f k,gg1.trans,Jk.binds (ps:=?dQ) ?a8,s15 _ _ fZ,k D ys H1 hD s1 El r1,h.Ns ?hZ mg,(z▸y.mq),[?n,?cL,?y,?aN,o4,?N,o6,o7,none],[?n,?a1,?bF,o3],(z.same TR).there.1,"_law_book",(?FP).length,⟨_,_,e⟩,((0:Nat):Int),(?FX ?mG).sum,(o4:?bW),(z.symm▸y.mq),fun c r e=>?_,st _ _ (s2 _ _ (?cC _ _ e)),((f:Nat):Int),Rr L1 T Uf X2,?OM ⟨rfl,fun a ha=>by rw[Ai ha,Ai ha],Ab⟩,(Ao e hD),?U2 M,?dY p.toNat [],∀a,?hV->?rA,On i _ hx,?UT fam=true,(?EJ s5),ok.hd j O9m hj2,(I ?M s),Qa Km T G0 Ja,⟨?j,?j,rfl,Ab,?_,?_⟩,?QK (by rw[Zr.refl];decide),(o7 o8 o9:?bW),fun q hq=>?_,npn.symm,fun a=>a=nm,Int.emod_nonneg _ ?b0,Lat.beside,?oX/\?uL,"_law_letters",upd (upd H2 sU (.own p)) p (?L Ac sU []),.(by simpa using hk0),w.length,"level_of",Qu ws w fam,?Q4 R.at,?jE (?r6),a=O3\/a=O4,"_law_cells","Stairs.put_in",.(by obtain⟨r',b',ly,_⟩:=y.ex;obtain⟨sU,fs',ZL,_,_,_,l4',_⟩:=ly.ob;refine⟨_,rfl,p,sU,fs',rfl,ZL,l4' _ ?c0,_,rfl,_,rfl,_,_,rfl,rfl,?_⟩),.(by obtain⟨f1,f2⟩:=fin i D H1 hi hD s1 (by rw[El];congr 2;exact Qt fun c _=>by simp[TF]) fun r hr=>by funext c;simp[TF,hr]),.(by refine⟨sF _ _ R.at,?iJ,cs++[F],?m3,?BR,?_,_,rfl⟩;refine ?r1 hF sF ?_),.(by rw[hfs,As,?eP,As,?eP];rfl),.(by rintro i x zs τ G1 hx ⟨cs,rfl,hcl,R,o1,rfl⟩;have hi:i<n:=by ext j0;rw[qa4,xa.1]at this;exact this),.(by refine⟨_,rfl,_,_,rfl,rfl,(?PF 3),rfl,_,rfl,?_⟩;refine ?dP (fun _=>?_) (fun _=>?_)),.(by revert σ;refine QK ?_;intro L R lu ru layer rows o5 o6 o7 o8 o9 sH hL rL hR rR hWl hlay hll hrl Ei),.(by obtain⟨dx,fs,hp,l1,l2,l3,l4,l5⟩:=x.ob;obtain⟨as,xa,na⟩:=x.rw;obtain⟨bs,xb,nb⟩:=x.bk),.(by exact⟨_,rfl,_,rfl,L,_,_,i,rfl,rfl,f1,Kh (by rw[qa4,x.1];exact hi),(?RE _ f2)⟩),∀(Fi:Has P w K mg ?d ?n4 ?xP 2 (Pn K)),a,.(by obtain⟨b,hb⟩:∃b,?T2 ps b:=?KR),.(by refine⟨?aQ,?yT⟩;refine k p [] _ hp (?cA) Ab ?_),.(by refine⟨t,_,rfl,?cP,rfl,_,_,rfl,_,_,rfl,_,_,rfl,_,_,rfl,rfl,?_⟩),.(by have rul:ru.length=rows.length:=by have:=rR.length;ext a5),.(by obtain⟨t,c1,c2,c3,rfl,_,et,e1,e2,e3⟩:=(rP.same g).2 i v b hv hb),∀(C9:Has P w K mg ?d ?nG ?kI 3 (Fx K)),a,∀(Cj:Kl P w K mg ?d Ac ?xW ?x8 4 (?OU Ks)),a,∀(Hk:Has P w K mg ?d ?sA ?yL 1 (L3 K)),a,.(by exact⟨?aQ,?V1 ?cJ hD⟩),.(by revert σ;refine WQ ?_;intro W wu ws o5 o6 s2 hW ZQ rW hO hwl Ei),.(by obtain⟨tvc,dxc,fsc,hpc,l1c,l2c,l3c,l4c,l5c,l6c,l7c,_⟩:=z.ob),.(by rw[As,?s4,As,?s4]),.(by rw[hfs];exact qa6 ?g8 (qa6 ?oE ?b0)),.(by obtain⟨c,_,ec,_,hc⟩:=?qO;rw[ec]at hx;cases hx),∀(Da:Has P w K mg ?d ?n0 [?eM] 1 (Pm K)),a,.(by have hyl:?qS:=by have:=r1.length;simp at this;omega),.(by rw[As,?eP]),∀(Q3:Has P w K mg ?d ?E5 [?fT,?cF,?bJ] 1 (Qy K)),a,∀(Eo:Has P w K mg ?d ?s6 ?r0 2 (Hr K)),a,∀(K8:?SW P),a,.(by exact⟨?J,?bS,?nM⟩),.(by revert σ;refine WR ?_;intro us o12 o13 o14 yQ g D7 rU Ei),∀(K9:Has P w K mg ?d ?oZ ?s9 3 (Sb K)),a,.(by obtain⟨ps,hps⟩:∃ps,?T2 ls ps:=?rX),.(by refine WO ?_;intro ws o1 o2 o3 o4 o5 o6 o7 g D7 dd Zr Ei),.(by revert σ;refine kK ?_;intro ws o6 o7 hc2 fZ dd Zr hk Ei),.(by rintro zs τ G1 ⟨cs,rfl,hcl,R,_⟩;rw[qa4,xa.1]at hcl),.(by exact⟨?d4,?nJ,?s0⟩),.(by refine(?PH pr)),.(by obtain⟨cs,_,_,R,_⟩:=hz;exact ?dD (.of xa')),.(by refine wQ ?_;intro ws o2 o3 o4 o5 o6 o7 g D7 dd Zr Ei),.(by refine⟨_,rfl,p1,ON,rfl,?m IS,_,rfl,O9m,O9m,?_⟩),∀(Gb:Has P w K mg ?d ?mS ?nO 3 (Jv K)),a,∀(La:Has P w K mg ?d ?qZ ?qW 1 (Sc K)),a,.(by have nN:?LV:=?S8 x.nn),.(by rcases Jp (l:=xs) (i:=?gQ) (d:=[]) with z | z),.(by rwa [show((?gQ:Nat):Int)=q.1 by omega]at this),.(by exact fun k k1 k2=>?HS k1 k2 _ _ _ _),.(by rw[qj1 (by ext t3),qa4,xa.1];omega),.(by rw[qj1 (by ext t4),qa4,xb.1];omega),.(by have:¬c=i:=fun e=>z e.symm;simp[Lat.one,z,this]),.(by obtain⟨pa,pu,rfl,hpa,rP⟩:=hB.2 i v ps hv hps),.(by refine wR ?_;intro D m o7 o8 o9 QA g D7 hm gm Ei),.(by exact sx1 b _ (Fh e hp ?i5) e),.(by have hat:?SM ms:=?I1),.(by refine WS ?_;intro D m o8 QA SR hk D7 hm gm Ei),.(by refine⟨_,rfl,la,lu,rfl,?m hlq,?_⟩;rw[zN]),.(by have cb:∀z:Int,U1 z g:=fun z=>U1.of9 O9m lg),.(by have hq2:Ed K H2 aw ?pH:=sH.seqT hq),.(by refine(?SO ta hT1)),.(by revert σ;refine KL ?_;intro o1 ha1 El hk1 Ei),.(by rintro i ys τ H1 hi ⟨as,hal,rfl,R,o,rfl⟩),.(by exact ?cY ?lD),.(by refine ?SI (by ext sY)),.(by refine ?QK (by ext sY)),.(by rw[?c1];exact MT c q z ?LS ?k9),.(by have m9:b≠D:=?JM;have hb1:=?oB),.(by refine(?SO L hL)),∀(Rv:Has P w K mg ?d ?oF ?oH 2 (BZ K)),a,@(qx4 ?a ?k ?_),@(fun _ _ _ _=>?a),@(Aa ?a (Aa ?b Af)),@(key _ _ ?a),@(Bw P w K mg ?d Ex 2 f fd ?a (?b K)),@(Bw P w K mg ?d Ex 3 f fd ?a ?b),@(Bx (Hz (K:=K) qe4 qh7 qh6 F8 ?a (Aa ?b Af))),@(.of (?a _ _ ?b)),@(Bf ?aK ?aM qh4 ?a),@(Be ?a ?b Am ?t),@(E9 (fun σ' H'=>σ'=?a/\?bD) ?_ ?eF),@(?a K Ag Ac Aj),@(fun i σ H2=>Th fun ?lX ?oQ ?kC ?qB=>B4 (σ=[?q8,?bE,?gM,?c ?a,?gM,?b7,o]) ?eG ?s7 ?nF),@(fun F=>?a F T ?b),@(.dK (cK ?a)),@(fun F=>?a F T),@(Bw P w K mg ?d Ex 1 f fd ?a (?b K)),@(?m ⟨rfl,_,.of ?a⟩),@(?a (K:=K) ?b),@(Av (i:=3) ?a ?b),@(E7 (K:=K) ?i ?a),@(?r ?a ?u),@(?I ?eK (?f L') (?I ?a3 (?f ?a) fs)),@(Em fun o=>τ=?a),@(Av (i:=2) ?a ?b),@(Ch ?g ?aE ?a),@(fun _ _ _ _ _ _=>?a ?b),@(⟨_,rfl,?a,o,?b,rfl,Ab,?_⟩),@(fun i zs τ G1=>Em fun cs=>B4 (zs=cs.map ?b6) (cs.length=i) ?a (Em fun o1=>τ=[o1,?cN])),@(Eh (K:=K) (n:=2) ?g (Bp (Ar (i:=3) ?a) (Bp ?b Eg))),@(fun σ' H'=>Em fun(fam:Int)=>E5 (σ'=[?m9,?a,?nL,?bE,none,none,none]) (?bD) (fam<100)),@(⟨_,.of ?a⟩),@(by show ?d3<?a;decide),@(SX Ac H0 ?a p q M n W t i ?b),@(⟨?a,_,rfl,?bK,rfl,_,_,rfl,_,_,rfl,rfl,?_⟩),@(⟨?a,_,_,rfl,rfl,?b,?aS,?_⟩),@(⟨_,rfl,?a,_,_,_,rfl,rfl,?b,rfl,rfl,_,rfl,?_⟩),@(upd H1 ?a (?A ?b)),@(B7 (Ez (Ek (An ?a hr ?b))) ?o5 Bl),@(Av (i:=4) ?a ?b),@(?a2 K ?a ?b=?bO),@(Kl ?a w K mg ?d ?b ?e8 ?fN 2 ?kE),@(Kl ?a w K mg ?d ?b ?c5 ?eA 3 ?l7),@(fun i ys τ H1 _ hz=>by ext lV;exact ?a),@(Ar (i:=4) ?a),@(Ou (?s ⟨o,?a⟩) hat),@(?a K ?b=true),@(fun Z hZ=>⟨_,rfl,Ab,[(?m ?a,?e 1)],rfl,(by show 1<=15;decide),?_⟩),@(Cw (K:=K) (a:=r) (xs:=?fZ) ?a ?b (fun i zs τ G1 _ hz=>by ext NP) ?_ ?_),@(?A [?eZ,?f lp,?f gp,?f ?a]),@(⟨_,rfl,p,Aj,dx,?a,rfl,Q2,?G,?b,O9m,?_⟩),@(qb8 (Nat.le_of_dvd (Int.natAbs_pos.mpr O9m) (qu7.mpr sh.dA)) ?a),@(⟨?a,rfl,?K,?K,?b⟩),@(upd (upd ?a p1 (?A [])) p2 (?A [])),@(.frz o (.dK (?a))),@(⟨_,rfl,_,rfl,tI fc,?x7,?a,?m ?b,(by have:=Qo acc;omega),_,rfl,?_⟩),@(us.length=?a),@(s2 _ _ ?a),@(C3 K ?a ?b),@(?s ⟨b,?a,?b,?d2⟩),@(qj5 X G ?a),@(s3 _ _ ?a),@(mkL (N:=?mU) hl1 R1 hl2 R2 ?a sN hfs zT (fun _ z=>z.elim)),@(fun i σ G ?a hz=>by obtain⟨_,_,_,_,e,_⟩:=hz;exact e),@(Rep K (?a) ?lC (sV ?b)),@(fun i j=>if j=i then 1 else ?a),@(Bw P w K mg ?d Ex 4 f fd ?a (?b K)),@(Ar (i:=?a) ?eV),@(Av (i:=?a) ?g5 ?b),@(⟨_,rfl,t,_,_,_,rfl,rfl,?a,rfl,_,_,rfl,rfl,_,rfl,?_⟩),@(?L Aj dx (?I ?a3 (?f ?a) fs)),@(?c (?p (VI ?a ?b))),@(show j≠?a by omega),@(Ih ?a ?_),@(C6 (?a (?hW)).length),@(fun i j c hi hj hc=>g7 (?a i j hi hj) (?b j c hj hc)),@(fun fr hc o e=>fr _ _ (?a _ hc).1 (?b _ hc).2.1 ?k9),@(SX Ac H0 ?a p q M n W t cnt ?b),@(?c (?f ?a)),@(?A [?e sv,?e ?a]),@(Ju fun o1 o2=>τ=?a),@(?h G2 (upd (upd G2 dl (.own ?a)) ?b (?L Ag dl []))),@(⟨_,rfl,_,rfl,a,?a,rfl,?m ?b,_,_,rfl,rfl,_,rfl,?_⟩),@(fun k hk=>⟨mk ?a bo.2 hi hk,mk ?b bo.2 hj hk⟩),@((?a).trans ?b),@(⟨p,_,rfl,.of ?a,rfl,_,_,rfl,_,_,rfl,rfl,?_⟩),@(fun c hc=>Rs ?a ?b ?b0),@(B7 (Be ?qJ ?a (Ba ?O ?aL ?aA ?z) ?t) ?a9 Bl),@(upd ?a b ?d1),@(qu9 X G ?a),@(fun k hk=>⟨mk ?a ?iL hi hk,mk ?b ?iL hj hk⟩),@(?bH K H1 ys ((?a ?b).map tI)),@(?I ?cW (?e7) ?a),@(⟨_,rfl,_,rfl,_,_,rfl,rfl,?a,rfl,_,rfl,?_⟩),@(upd H5 ?a (?L Aj dx (?I ?hH (?f nm) fs4))),@(upd (upd G3 dM (.own L)) ?a (?L Ag dM [])),@(fun a e=>?a e),@(⟨_,rfl,?a,rfl,?y4,?aR⟩),@(⟨P,us,rfl,.of ?a,?aD ?b r⟩),@(Av (i:=0) ?cK (Br ?a ?i ?b)),@(?h H (upd H ?a ?b)),@(?q2 K ?a ?qP=true),@(⟨_,rfl,_,rfl,_,rfl,c,_,rfl,?dD ?a,?ID⟩),@(⟨?a,rfl,?b⟩),@(fun z=>?a ?b),@(by unfold Ax;rw[?n6,?nW,?aB h5,?a h7]),@(?h H2 (upd H2 ?a ?b)),@(upd H1 ?a (?p ?b)),@(upd ?a T1 (?A ?b)),@(Ez (Ek (An La hr ?a))),@(Av (i:=?a) ?dH (C5 ?o ?d5 Jr hr ?i7)),@(?p (J9 us ?j (?c ?a))),@(?a2 K ?a ?n1=?q1),@(?B (o:=.dK ?a) ?b),@((?a).map tI),@(upd (upd ?a dx (.own p)) p (?L ?b dx [])),@(Be ?a ?gI (An Nf hr (Aa ?cM Af)) ?t),@(⟨_,(Ah (Bb (Me (An ?a hr ?aI) ?b))),?_⟩),@(∀{G:Hp}{c:Addr},?xC->c∈?a->?H0),@(upd G1 F (?p (J9 (VI ?gZ (?gH)) ?a ?b))),@(fun i σ G=>Em fun o3=>σ=?a/\F0=G),@(Bx (M5 ?a ?G ?b hr)),@(?m (?a _ _ ?b)),@(?a (K:=K) ?g ?q9 ?b),@(⟨_,rfl,p,Aw,dx,_,rfl,?a,?d5,?b,?bU,?_⟩),@(sp _ _ ?a),@(K0 (An Ja hr (Aa ?a ?b)) (K3 ?W ?o Fy)),@(K0 (An Ja hr (Aa ?a ?b)) (K3 ?W ?l Fy)),@(Bw ?a w K mg ?d Ex 14 ?b fd ?qU (Xu K)),@(Ah (Bx (An ?a hr (Aa ?o (Aa ?b ?fO))))),@((?x4&&?a6 (C6 (?hW).length=l))=?a),@(⟨?cJ,Ab,?a,?j,rfl⟩),@(nN9 K ?a),@(fun a e z=>?a a z e),@(by show(?a:Nat)<=sizeLine;decide),@(?rV K ?hZ ?a=?c (?c ?b)),@(⟨_,rfl,b,?a,rfl,?m hb,_,rfl,?_⟩),@(show(?a).length=(?b).length from ?j8),@(show ?a=?b by omega),@(.of (kb ?a mdj _ (?jY _ _ rdj))),@(.of (kb ?a mdi _ (?jY _ _ rdi))),@((if ?oW > 1 then ?oW else 1)-?a),@(vs d i ?a f l r hv O9m O9m O9m),@(DC ?a ?_),@(Bm (Cp ?a)),@(Ar (i:=?a) ?cV),@(Ai (Ao e ?a)),@(?jT ?a q.1=?rC),@(?a a=none),@(⟨_,rfl,?a,_,_,_,rfl,rfl,?b,rfl,?_⟩),@(⟨_,_,_,w++?a,rfl,?xM,?i6,?CC⟩),@(Bw P w K mg ?d Ex 6 f fd ?a (?b K)),@(Bw P w K mg ?d Ex 5 f fd ?a (?b K)),@(?L Aw dx (?I ?l3 (?f ?a) ?vG)),@((?FQ ?a).foldl (lift1 ?jQ) lg),@(⟨_,_,⟨?a,Uc,Qi⟩,?EI,?LQ⟩),@(show(?a).all id=true by simp),@(gX ?a w K mg ?d Ag ?dQ 1 ?nN),@(EM _ _ ?a (s5 _ _ ?b)),@(Av (i:=1) ?a ?b),@(Ao ((yF.trans s4) _ _ ?a) nE),@(?v ?a ?c6 (Au ?b)),@(?e (fs.getD ?a 0)),@(?a[i]?=?c ?b),@(Ar (i:=?a) ?b),@(?c (?e ?a)),@(An ?a hr ?b),@(σ'=[?n,?a1,?aV,?N,?aZ,?d7,?dW,?a,?b,none,none,none,none,none,none,none]),@(σ'=[?n,?a1,?aV,?N,?aZ,?d7,?dW,?eR,?fL,?hF,?a,?b,none,none,none,none]),@(?b4=?c (.dK (cK ?a))),@(B7 ?a (Ah ?b) Bl),@(?c (?p ?a)),@(Bx (Hz (K:=K) qe4 qr7 qr6 Vo ?W (?OL ?o (?a (K:=K) qe4 PySem.F.slot_list_pop PySem.F.type_list_pop fQ ?W ?V)))),@(uu ?a (?OY ?b) ?aH),@(Bw P w K mg ?d Ex ?a f fd ?c6 (?OU ?b)),@(?c (?OX ?a)),@(Bf ?a ?dC By (?OL ?b (Gz (v:=.ty ?hJ) rfl ?eT Fm rfl))),@(Ba ?bR ?a Am ?z),@(fun σ' H'=>σ'=?a/\?b),@(Ct (Gr (K:=K)) ?g ?eT Fm ?a),@(Ah (Bx (C5 ?i ?J Cj hr (?OL ?a (Br Dl ?l Am))))),@(uu ?a (?OY ?b) ?R),@(B7 (Ez (Ek (Bf W3 ?dC By (?OL ?o (?a (v:=.ty "dict") rfl ?dN Eb rfl))))) ?a9 Bl),@(WX K Ag Aj H0 ?a p L R nm n w ?oD l r []),@(σ'=[?n,?cL,?a,?b,none,none,none,none,none]),@(WX K Ag Aj H0 ?a p L R nm n w ?j ?b r ?jB),@(LX ?a Ag L O1 O2 ?j n n ?dO ?b),@(σ'=[?dG,?cN,?a,none,none]),@(Ct Hg ?g ?dN Eb ?a),@((?gO ?a).trans ?c7),@(?b2 (Ss ?a (N8 (?OS Ij ?b)))),@(uu ?a ?b (?P9 rA (fun _ _ _ _=>rfl))),@(σ'=[?n,?C,?a,?b,none,none,none,none]),@(Ez (Ek (Bf ?a ?dC By (?OL ?b (Gz (v:=.ty ?jW) rfl ?uA Jt rfl))))),@(?a xs ?b z k0 L G f l r),@(σ'=[?n,?C,?N,?aZ,?cH,?jP,?a,o7]),@([?n,?dZ,?aN,?N,?cH,?e5,?a,?b,none,none]),@(fun i ys τ H1=>B4 ?g2 ?eS (ys=(?eB i true).map V.bl) ?a),@(fun j i=>Rb (?dY (?tI j 0).toNat []) ((?jG).getD i ?a)),@(H ?a=none),@(∀q,?fD=Ay m3 q+wF (fun f=>Ay (?qQ f.toNat []) q) ?a),@(σ'=[?dG,?cN,?b3,?y,?a,none]),@(LX H' Ag ?a r1' XE ?j n n ?b (fun a=>a=nm\/a=r2\/a=b2)),@(upd H6 ?a (?L Aj dx (?I ?iK (?f R') (?P5 E)))),@(uu ?a ?b ?a8),@(Bw P w K mg ?d Ex 4 f fd ?a ?b),@(?c (?L ?a dx ?b)),@(?h H1 (?PK ?a ?b)),@(WX K Ag Aj H0 H' p L R nm n w ?j ?a ?rH ?jB),@(Rz K H' tp nm r1 D1 D2 b2 z (?cZ) k0 ?a l r),@(H9 ?a=?QI n (?mV s.2 i j ?d6 (-?c2) (-c) a ?b)),@(?h ?a H'),@(⟨_,rfl,?a,rfl,?b,?_⟩),@(fun i ys τ H1=>D6 (i<=w.length) ?g2 ?eS ?a ?b),@(σ'=[?y,?iN,o2,?a,?b]),@(Fc (Aa Oc (Aa ?o (?OL ?l (M4 Im ?a))))),@(Ba ?O ?a ?q ?z),@(fun a o e=>sx _ _ (Ao e ?a) (?Q8 e)),@(H9 ?a=?QI W (?mV s.1 i j a c ?c2 ?d6 ?b)),@(⟨_,rfl,_,rfl,?a,?bX,rfl,?b,rfl,_,rfl,?_⟩),@(SX Ac H ?a p q (fun a=>?mH) n ?gZ t ?b s),@(Rep K H' (?f ?a) ?b),@(Rep K H' (?a) (dT (?g4) (?g4) ?fM)),@(⟨_,rfl,_,_,rfl,rfl,(?PF ?a),?_⟩),@(Lq ?aY ?a ?q ?z),@(Ac3 ?a w K mg ?d Ag ?c8 ?dQ 1 ?nN),@(?a6 (?Y ?a=?iH)),@(⟨rfl,?a⟩),@(upd (upd ?a Z ?g9) Z (?OX [(?b,1)])),@([?n,?cL,?y,?aN,o4,?a,none,none,none]),@((?cE ?a).turn ?b),@(⟨?a,_,?M,_,rfl,rfl,Ab,?_,?e6 ?b,?LR⟩),@([?n,?dZ,?aN,?N,?cH,?e5,?C,o7,o8,?a]),@(s1 _ _ ?a),@(fun D hD=>?OM ⟨D,rfl,?a,?b,Ab⟩),@(below ws fam [] ?a),@(LX H' Ag R r2 b2 ?j w w ?a ?s8),@(?cY (?e4 ?a)),@(⟨_,_,⟨?a,Ru,Om⟩,?FE,?M1⟩),@(Aa ?a (Aa ?b ?jI)),@(Eh (K:=K) (n:=2) ?g (Bp ?a (Bp ?b Eg))),@(Ah (Bb ?a)),@(σ'=[?y,?bM,iS j,iS A,iS B,?b3,iS ?a,iS c,?T4 ?c2,?T4 ?d6,rS ci,rS di]),@(σ'=[?y,?bM,iS j,iS A,iS B,?b3,iS ?a,iS c,?T4 ?c2,?T4 ?d6,rS ci,none]),@(Aa ?a Af),@(Ba ?O ?a ?b ?z),@(σ'=[?y,?bV,?c (?fY),?T4 (f i),?T4 (f ?a),rS P]),@(Ez (Ek (?T5 ?a ?b))),@(H' ?a=?TA ?b),@(B7 (?b2 (O8 ?a ?b)) ?a9 Bl),@([?n,?cL,?y,?aN,o4,?N,?bV,?a,?b]),@(σ'=[?n,?dZ,?aN,?N,?T4 ?lH,?e5,?C,rS ?a,o8,?T4 (?k6)]),@(Ah (Av (i:=6) ?dA (?T5 Uh (Aa ?aA (?OL ?a ?e9))))),@([?y,?bV,?c (?fY),?T4 (f i),?T4 (f ?a),none]),@(Nv fun ?LL ?wT ?tP=>E5 (?U4 o4) ?a (J ?b t s)),@(fun σ' H'=>σ'=?a/\G=H'),@(G D=?TE ?a),@(fun σ' H'=>σ'=?a/\?bD),@((?f2).getD ?a []),@(Br Dl Am (Br Iy (Br Xz ?i Am) ?a)),@(CH (K:=K) ?g ?xS ?a),@(uu ?a ?b ?R),@(Dz (R8 ?a (?fQ) (?fQ).length)),@(⟨_,?a⟩),@(⟨_,(?V8 ?a),?_⟩),@(Av (i:=?a) ?c9 ?b),@(Aa ?i (?OL ?a ?b)),@(cI (Y1 ?a Am CF) ?g ?g ?i5 (qu6 rfl)),@(Br Dl ?a Am),@(Bx (C5 ?i ?J Cv hr (?VB ?a))),@(fun σ' H'=>E5 (?VD j) (Ed K H' P ?p9) ?a),@(Bf ?pG ?p5 Q8 (Aa ?a Af)),@(Av (i:=?a) ?dS (?T5 Rv (?VB (?OR ?b)))),@(Aa ?l (Aa ?a ?b)),@(B8 qb5 rfl (?P1 Ce ?a) (?SK 7) (Ah ?b)),@(M7 ?aY ?a ?b Am ?o0),@(Fo ?a ?i Hy (F7 ?b)),@(E7 (K:=K) ?i (M6 K8 hr ?g ?s3 ?a)),@(K0 ?a (K3 ?o ?q Fy)),@(insAt ?M (?f ?a) ((?b).eraseIdx i)),@(Ch ?g ?aE (?VB (?OR ?a))),@(Lp (v:=?e ?a) ?g ?b ?bT),@(B7 (?a ?b) ?a9 Bl),@(Av (i:=5) ?a ?b),@(Ah (?T9 (?OS Ij ?a) ?b)),@(Br Ix ?a Am),@(?a (K:=K)),@(B8 qb5 rfl (?P8 ?a) (?T3 3 ?lB) ?b),@(Bx (C5 ?W ?d4 Kj hr (?VB ?a))),@(Aa ?i (Aa ?a ?b)),@(Bx (Hz (K:=K) qe4 qh7 qh6 F8 ?a ?b)),@(Ba ?bR ?a ?b ?z),@(Av (i:=6) ?a ?b),@(Bf ?aK ?aM qh4 ?a),@(⟨_,(Ah ?a),?_⟩),@(O8 (?VE Fi (?VX ?a ?cB)) (P3 ?b))])
noncomputable abbrev Hv:Stmt:=top 70
theorem Se:?v ?kX ?kX (Au Hv):=Bj
theorem Sy[?x](F:E4 K ?r3 ?r3 Hv f fd)[?w] :?OZ ?kX Kr:=by
 refine ?P4 Se;obtain⟨a,us,ps,rfl,ha,rU,hpl,kq⟩:=h;refine(?VV (Cd (N':=["part"]) (cap:=?i1) ?g ?X ?j7 (?OK (?T3 0 YU)) (?OK (Xy (Be Ij (?TG ?i) Am ?t))) (?OK ?i)));refine⟨_,rfl,a,rfl,(?PE ha),?aR⟩;have ul:=rU.len
 let Bn5:?a4:=fun i ys τ G=>B4 ?jZ ?IO (B6 G ys (Rc (?pT))) ?i3
 refine BP (K:=K) (a:=a) (xs:=us) Bn5
  (?S6 ?yP) (fun i ys τ G _ hz=>by obtain⟨h1,_⟩:=hz;exact ?OQ h1 ha) ?_ ?_
 . rintro i v ys τ G hv C0;ext lU;intro h1 D7 rY o Ei;ext gS;obtain⟨p,hp,pv⟩:=rU.get hv;have pv1:=?y8 h1;obtain⟨t,c1,c2,c3,rfl,et,_⟩:=id pv1;have etk:?jU ?aW=?pT++[p]:=by rw[qe7,hp];rfl
   have yl:ys.length<=1000:=by
    have h2:=rY.len;have h3:=qj8 (fun p:Bi=>?a6 (p.1≠1)) (?pT);rw[qc8]at h3;unfold Rc at h2;omega
   ext zP;ext lP
   . have hb3:¬?m6:=?cG
     refine⟨_,rfl,D7,?aS,h1.turn hD,Ab,?_,_,rfl⟩;rw[etk,fP,?U hb3];exact B6.snoc (B6.put D7 rY) (pv1.put D7)
   . have hb3:?m6:=?cG
     refine⟨h1,D7,?_,_,rfl⟩;rw[etk,fP,?aB hb3];exact rY
 . rintro ys τ G ⟨h1,D7,rY,_⟩;rw[ul,qd0]at rY;exact kq D ys G hD h1 D7 rY
noncomputable abbrev Vh:Stmt:=top 74
theorem HX:?v ?qW ?qW (Au Vh):=Bj
theorem iF[?x](F:E4 K ?qZ ?qZ Vh f fd)[?w] :?OZ ?qW Sc:=by
 refine ?P4 HX;obtain⟨x,d,rfl,hx,k⟩:=h;refine(?VV (Me (Bf ?k0 ?dC By (?OL ?i (Gz (v:=.ty "int") rfl T.n_int boot_intT rfl))) (Od (pJ (Bf ?k0 ?dC By (?OL ?i (Gz (v:=.ty ?zA) rfl T.n_bool g6 rfl)))))));refine⟨_,rfl,_,_,d,rfl,?bZ,hx,_,rfl,?_⟩;ext sQ
 . refine⟨_,rfl,_,_,d,rfl,?s (?bZ),hx,_,rfl,?_⟩;have e2:Kq d=!KN ?zA d:=by unfold Kq;rw[e];rfl
   ext j1
 . have e2:Kq d=false:=by unfold Kq;simp[e]
   ext j1
noncomputable abbrev Vi:Stmt:=top 75
theorem HY:?v ?sD ?sD (Au Vi):=Bj
theorem IF[?x](F:E4 K ?mR ?mR Vi f fd)[?w] :Bw P w K mg ?d Ex 1 f fd ?sD ?xH:=by
 refine ?P4 HY;obtain⟨v,ds,rfl,hs,k⟩:=h;refine(?VV (?WG (Bf (BQ ?g) T.n_max bR (Aa Am ?pO))))
 obtain⟨t,us,rfl,hq,r⟩:∃t us,v=?pL/\(SqL K H t us\/Ed K H t us)/\?DT:=by
  rcases hs with⟨t,us,e,h1,h2⟩|⟨t,us,e,h1,h2⟩
  . exact⟨t,us,e,?m h1,?HK⟩
  . exact⟨t,us,e,?s h1,?HK⟩
 refine⟨_,rfl,t,us,rfl,hq,_,_,rfl,_,_,rfl,rfl,?_⟩;rw[r];have e:?SG 1=?gR:=by unfold C6;split<;>split<;>omega
 show Q (?e (?SG 1)) H;rw[e];exact k
noncomputable abbrev Gm:Stmt:=top 77
theorem Fz:?v [?eM,?l1,?f6] [?eM] (Au Gm):=Bj
theorem Qb[?x](F:E4 K ?n0 ?n0 Gm f fd)[?w] :?OZ [?eM] Pm:=by
 refine ?P4 Fz;obtain⟨a,ms,rfl,ha,hm,k⟩:=h;ext cR
 refine⟨_,(Ae (?SY Fz.nd K4)
  (Ae (Ob (B8 qb5 rfl (Q0 ?i) (?T3 2 Fz.nd) (?WF (Lq ?aY ?i ?o ?z) (Tz ?aY ?l ?o (Lq ?aY ?i ?o ?z) ?g))))
  (?V8 ?l))),?_⟩
 ext F
 intro D hD;have naD:a≠D:=Ao ha hD;refine ?s ⟨a,?aP,(by rw[Ai naD];exact ha),?d2⟩;have FY:nd ms:=?pW;refine(?PA a ?aP)
 let Bn4:?aO:=fun i σ H1=>Em fun o1=>B4 (σ=[?n,?C,o1]) (H1 a=?q0) (?hP=?TE (Dz (ms.take i))) ((∀c q,c≠a->?FW))
 refine Nj (d:=a) (o:=o) (kvs:=?aP) Bn4
  ⟨?j,rfl,Ab,?_,fun c q n1 n2 e=>by rw[?iS,?iT];exact e⟩ (fun i σ H1 _ hz=>?HU) ?_ ?_
 . rw[Ai naD.symm,Ab];rfl
 . rintro i kk x σ H1 hx C0
   ext Q
   ext OA;ext f9;ext A5;ext O4;refine(?UM a ?HX);have ct:=bO hq;ext aT
   . have e:¬q.2=0:=?S
     rw[?U e]at ct;have ln:(Dz (ms.take i)).length<=1000000:=by have:=kJ (ms.take i);ext t5
     refine⟨_,rfl,_,rfl,a,?bX,rfl,?HX,_,rfl,_,rfl,D,_,rfl,Uj El ln,?_⟩;refine⟨_,rfl,?_,?_,fun c r n1 n2 e2=>?_⟩
     . rw[Ai naD];exact ha1
     . rw[Ab,put_new (vH (oQ FY hq)),ct]
     . rw[?iT];exact hk1 c r n1 n2 e2
   . have e:q.2=0:=?S
     rw[?aB e]at ct;exact⟨_,rfl,ha1,by rw[ct];exact El,hk1⟩
 . rintro σ H1 C0;ext OA;rw[Ka,qd0]at El;refine⟨ha1,_,rfl,k D _ hD (?BM) (by rw[Ai naD.symm];exact El)⟩;by_cases z:c=a
   . subst z;rw[ha]at e2;cases e2;exact Ab
   . rw[?c1];exact hk1 c q z (Ao e2 hD) e2
noncomputable abbrev Py:Stmt:=top 80
theorem Kf:?v [?GN,?l1,?eM,?f6] ?uN (Au Py):=Bj
theorem CM[?x](F:E4 K ?oP ?oP Py f fd)[?w] :?OZ ?uN AS:=by
 refine ?P4 Kf;obtain⟨g,c,gs,cs,rfl,hg,hc,hmul,kq⟩:=h;ext cR
 refine⟨_,(Ae (?P7 Kf.nd Am)
  (Ae (Ob (B8 qb5 rfl ?J6 (?T3 3 Kf.nd) (Ah (?P7 Kf.nd (Br Dl ?o (Br ?rI (?W6 ?i ?q) (?UR ?l)))))))
  ?l4)),?_⟩
 ext F
 refine ?s ⟨c,?pM,hc,?d2⟩;have FY:nd cs:=?pW;refine(?PA c ?pM);have hcF:upd H c ?pA c=?c ?pA:=Ab
 have rg:Rd (?C7) g (?OX gs):=by
  by_cases z:g=c
  . subst z;rw[hg]at hc;injection hc with hc;exact ?s ⟨o,by rw[Ab,hc]⟩
  . exact ?m (by rw[?c1];exact hg)
 have hFk:∀d q,d≠c->H d=?dV->upd H c ?pA d=?dV:=fun d q n e=>?x2
 generalize ?C7=F0 at hcF rg hFk ⊢
 let Bn3:?aO:=?RV [rS g,rS c,?T4 (?CH),o3]
 refine Nj (d:=c) (o:=o) (kvs:=?pM) Bn3
  ?KZ (fun i σ G _ ?LI=>by rw[←e];exact hcF) ?_ ?_
 . ext lR
   ext Q
   revert σ;ext sO;ext f9;have hat:?SM cs:=?I1;refine⟨_,rfl,_,rfl,g,rfl,?m (?VU rg),_,rfl,_,Q6 rg,_,rfl,_,rfl,c,?bX,rfl,?PS hcF,?w8,q.2,?rR,rfl,?G5,_,_,rfl,rfl,?_⟩
   have ew:wF (Ay gs) (cs.take ?aW)=?CH+?w8*q.2:=by
    rw[qe7,hq,Qv,qf3];show _+(q.2*?w8+0)=_;rw[qf1]
   exact⟨?CX,by rw[ew];rfl,rfl⟩
 . ext aG;ext sO;refine⟨hcF,_,rfl,?_⟩;rw[Ka,qd0];refine kq _ fun d q e=>?_;by_cases z:d=c
   . subst z;rw[hc]at e;cases e;exact Ab
   . rw[?c1];exact hFk d q z e
noncomputable abbrev Pz:Stmt:=top 83
theorem CB:?v ?r4 ?r4 (Au Pz):=Bj
theorem cN[?x](F:E4 K ?rM ?rM Pz f fd)[?w] :?OZ ?r4 Tr:=by
 refine ?P4 CB;obtain⟨a,ns,k,rfl,hS,h0,hl,kq⟩:=h
 refine⟨_,(Ae (?T9 (Be P5 ?l ?h4 ?t) (Bb (?VC ?i ?l)))
  (?V8 Am)),?_⟩
 ext F
 refine(?QT _ hS);ext aT
 . have h2:k<(ns.length:Int):=?S
   have e:DZ (?m1) k=?T4 (f6 ns k):=by
    obtain⟨j,rfl⟩:=qt2 h0;refine Bm ?_;have hj:?FL:=O9m
    rw[qa9,qa0 hj];simp[f6,hj]
   exact⟨_,rfl,_,rfl,a,_,k,_,rfl,rfl,hS,e,kq⟩
 . have h2:¬k<(ns.length:Int):=?S
   have e:f6 ns k=0:=by
    unfold f6;have:ns.length<=k.toNat:=O9m
    simp[this]
   rw[e]at kq;exact kq
noncomputable abbrev N5:Stmt:=top 84
theorem Jf:?v [?g6,?eI,?CW,"_law_faces",?EK] ?yL (Au N5):=Bj
theorem y8[?x](F:E4 K ?sA ?sA N5 f fd)[?w] :?OZ ?yL L3:=by
 refine ?P4 Jf;obtain⟨v,w,fam,rfl,hv,hw,k⟩:=h;obtain⟨aw,rfl,hq⟩:=hv.sq;have hlen:(?tX).length=w.length:=?j8;have wY:w.length<=4:=by rcases hw with z | z | z<;>omega
 refine⟨_,(Ae (?P7 Jf.nd ?h4)
  (Ae (B7 (?OS Fg ?l) (Ae (?T9 (?OS P5 ?o) (Bb ?d0))
  (?V8 (Cd (N':=[?EK,?g6]) (cap:=?u0) ?g ?X (?P8 ?aU) (?OK (?T3 0 yT)) ?a7 (?OK (Br ?sF (Fo ?iI ?l Hy (F7 ?i)) (Fo ?iI ?l (F7 (?VZ ?i)) Hy)))))) Bl)
  (Ae (?T9 (?OS Fg ?o) (Bb ?d0))
  (Ae (B7 (?OS P5 ?l) (Ae (?T9 (?OS Fg ?o) (Bb (G8 (?OL ?w9 ?w9))))
  (?V8 (Cd (N':=["_law_letter"]) (cap:=?i1) ?g ?X (?P1 Ua ?i) (?OK (?T3 0 YT)) ?a7 (?OK (Fc ?aI))))) Bl)
  (Ae (?P2 Jf.nd (G8 (?VB (Fo ?iI ?i ?tB Hy))))
  (Ae (B8 qb5 rfl (?P8 (?VB (?WG ?o))) (?PR Jf.nd) (Ah (?OP ?q (Br ?sF (Br ?sF (?W7 ?iI ?E) (Fc (?VB (Br Iy (Br Dl (?WM ?i ?E) (?WM ?i (?VZ ?E))) ?l)))) (Fo ?iI ?i (F7 (?VZ ?E)) Hy)))))
  (Ae (?OP ?q (?W7 ?iI (?WG ?o)))
  (?V8 ?q)))))))),?_⟩
 ext F
 refine⟨_,rfl,aw,_,rfl,?s hq,?_⟩;rw[hlen];ext bA;ext aT
 . have hf:?j6:=?S
   subst hf;ext b9;ext lP
   . have h3:w.length<2:=by have:?gJ<2:=?cG
                            omega
     ext MX;have e:Ax w 0=[]:=by unfold Ax;rw[?bI,?aB h3]
     rw[e];rfl
   . have h3:¬w.length<2:=by have:¬?gJ<2:=?cG
                             omega
     have e:Ax w 0=(?hX ?ME).map ?zB:=by unfold Ax;rw[?bI,?nW]
     rw[e]at k;ext sM
     let Bn2:?a4:=?UG (?R2 ?lK ?zB) (?P6 [o,rS aw])
     refine Hn Bn2
      ?GS ?_ ?_
     . rintro i ys τ H1 hi C0;ext t1;intro hi1 s1 El r1 o Ei;have hi2:?uD:=?G1
       have hq1:Ed K H1 aw ?pH:=?vA;refine⟨_,rfl,_,rfl,_,rfl,aw,_,rfl,hq1,?_,fun p1 H2 s2 q2=>?_⟩
       . ext AF;rw[?GZ,HT.sIx_nat]at z;omega
       refine⟨_,rfl,_,rfl,_,_,rfl,rfl,_,rfl,aw,_,rfl,s2.seqT hq1,?_,fun p2 H3 s3 q3=>?_⟩
       . ext AG;rw[?I8,HT.sIx_nat]at z;omega
       rw[?GZ,Us]at q2;rw[?I8,Qp]at q3;refine⟨p1,p2,_,_,rfl,rfl,?tH q2,q3,?_,fun p H4 s4 q4=>?_⟩
       . refine Cb ?_;simp only[qc8,qj0,qa4];omega
       have kD:?h H1 H4:=?xM;have eF:H4 D=?e3:=kD _ _ El
       have t4:TI K H4 (?f p) (?GI):=by
        refine ?i6;rw[qb4,qo3,qp8];exact q4
       have r4:?bH K H4 ys ((?lK ?zB).map tI):=?aD kD r1;have hyl:?qS:=by have:=r1.length;ext a5
       refine⟨eF,?aS,O9m,(?z8).turn hD,Ab,?_,_,rfl⟩;rw[qj7,qb4];exact ?AV
     . rintro ys τ H1 ⟨_,s1,El,r1,_⟩;rw[show(?gJ).toNat=w.length by omega]at r1;exact ?LA
 . have hf:¬?j6:=?S
   ext bA;ext lP
   . have h3:?F3:=?cG
     ext MX;have e:?f3=[]:=by unfold Ax;rw[?n6,?aB h3]
     rw[e];rfl
   have h3:¬?F3:=?cG
   ext b9;ext sP
   . have h5:?s1:=?hL
     ext bA;refine ?dP (fun h6=>?_) (fun h6=>?_)
     . have h7:?C4:=by
        have:?gJ=1:=?BC
        omega
       have e:?f3=[[],[]]:=?RG ?aB
       rw[e]at k;refine⟨?aQ,fun p1 hp1=>⟨?aQ,fun p2 hp2=>⟨?aJ,?yT⟩⟩⟩;have s1:?RB p1 (?A []):=?B hp1;have s2:?h (upd H p1 (?A [])) (?Q0 H):=?B hp2;have s3:?h (?Q0 H) (upd (?Q0 H) p (?p [?i4,?f p2])):=?cA;have hp0:?U2 p:=(?eD).free hp;refine k p _ _ hp0 (?QV ?eD s3) Ab ?_;have t1:TI K _ (?i4) []:=?h3 (?OQ s3 (?GM));have t2:TI K _ (?f p2) []:=?h3 (?OQ s3 Ab);exact⟨_,_,rfl,t1,_,_,rfl,t2,rfl⟩
     . have h7:¬?C4:=by
        have:¬?gJ=1:=?BC
        omega
       have e:?f3=w.map ?nC:=?RG ?U
       rw[e]at k;refine(?R8 aw)
       let Bn1:?a4:=?UG (?R2 ?AJ ?nC) ?i3
       refine Wb (xs:=?tX) Bn1
        ?GS (fun i ys τ H1 _ hz=>by obtain⟨_,s1,_⟩:=hz;exact ?vA) ?_ ?_
       . rintro i x ys τ H1 hx C0;ext t1;intro hi1 s1 El r1 o Ei;have hi2:?uD:=?jS
         have hx2:x=?wV:=by
          rw[qa9,qa0 hi2]at hx;simpa using hx.symm
         subst hx2;refine⟨_,rfl,?aJ,?yT⟩;have s2:?UA p [?wV]:=?cA;have eF:=?u8;have t4:TI K (?PK p [?wV]) (?f p) [w[i]]:=?h3 (?bK);have r4:=?aD s2 r1;ext NB
         refine⟨eF,?aS,O9m,?wZ,Ab,?_,_,rfl⟩
         have e2:(?jE ?aW).map (?nC)=?AJ (?nC)++[[w[i]]]:=by
          rw[qe7,qa0 hi2,qb4];rfl
         rw[e2];exact ?AV
       . rintro ys τ H1 ⟨_,s1,El,r1,_⟩;rw[hlen,qd0]at r1;exact ?LA
   have h5:¬?s1:=?hL
   have hpos:0<fam:=O9m
   have e:?f3=?p1::((?hX (?r6)).map ?y2)++[?MI]:=by
    unfold Ax;rw[?n6,?nW,?U h5]
   rw[e]at k;refine⟨_,rfl,_,rfl,aw,_,rfl,hq,?_,fun p1 H1 s1 q1=>⟨?aJ,?aR⟩⟩
   . ext AG;rw[?I7,HT.sIx_nat]at z;omega
   rw[?I7,Qp]at q1;have VC:?mP:=?gK hD;have s2:?h H1 (?RI D [?i4]):=?cJ
   have t1:TI K (?RI D [?i4]) (?i4) (?p1):=by
    refine ?i6;rw[qp8];exact s2.seqT q1
   have hn:?J9=?r6:=O9m
   refine⟨_,rfl,_,_,rfl,rfl,_,rfl,O9m,O9m,Cn (lo:=0) (n:=?J9)
    (fun i σ H2=>Ju fun ?wL ?kC=>B4 (σ=[rS aw,?bE,?T4 ?ME,?C,o]) ?eG (H2 D=?e3) (?bH K H2 ys (?RP ?E1)))
    ⟨_,?j,rfl,?eD,Ab,⟨_,_,rfl,t1,rfl⟩⟩ ?_ ?_⟩
   . ext iZ
     ext Q
     ext gT;intro ys o sH Mw r2 Ei;rw[hn]at hi;ext O8;have c0:(?dJ)=?rD:=O9m
     have c1:(?dJ+1)=?qL:=O9m
     have c2:(?dJ+2)=((i+2:Nat):Int):=O9m
     have at0:DZ ?pH (?dJ)=?T4 (w.getD i 0):=by
      rw[c0];refine Bm ?_;rw[qa9,?vD];simp[show ?uD by omega]
     have at1:DZ ?pH (?dJ+1)=?T4 (?wU):=by
      rw[c1];refine Bm ?_;rw[qa9,?vD];simp[show i+1<w.length by omega]
     refine⟨_,rfl,?m ⟨rfl,_,SqL.of Mw⟩,?_⟩;refine⟨_,rfl,_,rfl,_,rfl,aw,_,rfl,hq2,?_,?E3⟩
     . ext AF;rw[c0,HT.sIx_nat]at z;omega
     rw[c0,Us]at qa;refine⟨_,rfl,_,rfl,aw,_,_,_,rfl,rfl,?FC,at0,_,rfl,_,rfl,_,_,rfl,rfl,aw,_,_,_,rfl,rfl,?FC,at1,_,_,rfl,rfl,_,rfl,_,_,rfl,rfl,hpos,?aJ,fun pb hb=>?_⟩;have sb:?h Ha (upd Ha pb (?A [?e ((w.getD i 0+?wU)%fam)])):=?B hb;refine⟨pa,pb,_,_,rfl,rfl,sb.seqT qa,?bK,?jC,fun pc Hc sc qc=>?_⟩;have sac:=(sa.trans sb).trans sc;refine⟨_,rfl,_,rfl,_,_,rfl,rfl,_,rfl,aw,_,rfl,sac.seqT hq2,?_,fun pd Hd sd qd=>?_⟩
     . ext AG;rw[c2,HT.sIx_nat]at z;omega
     rw[c2,Qp]at qd;refine⟨pc,pd,_,_,rfl,rfl,sd.seqT qc,qd,?jC,fun pe He se qe=>?_⟩;have oW:=(sac.trans sd).trans se;have hDe:=oW _ _ Mw
     have te:TI K He (?f pe) (?wC):=by
      refine ?i6;simp only[qb4,qo3,qp8,qc5,qr0];exact qe
     have hyl:ys.length=i+1:=by have:=r2.length;ext a5
     refine(?PI D hDe);refine⟨_,_,rfl,(?kV oW).turn VC,Ab,?_⟩
     have e3:(?p1::((?hX ?aW).map ?y2)) =
      (?E1)++[?wC]:=by
      rw[qj7,qb4];rfl
     rw[e3];exact Oa hDe (?aD oW r2) te
   . rintro σ H2 C0;ext gT;intro ys o sH Mw r2 Ei;rw[hn]at r2;ext O8;have c1:(?gJ-1)=((?r6:Nat):Int):=O9m
     refine⟨_,rfl,?m ⟨rfl,_,SqL.of Mw⟩,_,rfl,_,rfl,_,_,rfl,rfl,_,rfl,aw,_,rfl,hq2,?_,?E3⟩
     . ext AF;rw[c1,HT.sIx_nat]at z;omega
     rw[c1,Us]at qa;have hDa:=sa _ _ Mw
     have ta:TI K Ha ?CZ (?MI):=by
      refine ?i6;rw[qo3];exact qa
     have hyl:ys.length=w.length:=by have:=r2.length;simp at this;omega
     refine(?PI D hDa);ext iY;exact k D _ _ VC ((?kV sa).turn VC) Ab (Oa hDa (?aD sa r2) ta)
noncomputable abbrev Px:Stmt:=top 85
theorem Cq:?v [?x6,?eI,?MB,?CW,"_law_base",?g6,?jL] ?vH (Au Px):=Bj
theorem cL[?x](F:E4 K ?rT ?rT Px f fd)[?w] :?OZ ?vH Tq:=by
 refine ?P4 Cq;obtain⟨c,fam,letters,rfl,hl0,hl1,hf,k⟩:=h;have m1:0<=?cI:=?M8;have m2:?cI<4:=?yA
 refine⟨_,(Ae (?RA Iy Am)
  (Ae (?P2 ?cK (Br Iy ?i Am))
  (Ae (?PM ?cK ?o)
  (Ae (?T9 (?OS Fg ?l) (?P2 ?cK (?VZ ?q)))
  (Ae (B7 (?TT (?OS P5 ?l) ?q) (Ah (?P2 ?cK Am)) Bl)
  (Ae (?T9 (?OS fG ?l) (?PM ?cK ?l))
  (Ae (?RA Xz Am)
  (Ae (?WE ?cK ?w9)
  (Ae (B8 qb5 rfl (?P8 ?f7) (?T3 6 ?cK) (Ae (?WE ?cK (Br ?sF ?aL (Fc (?VB (Br Iy ?i ?E)))))
  (Ah (?RA Xz ?E))))
  (?V8 ?aL)))))))))),?_⟩
 ext F
 refine(?UQ 1000000);refine(?UQ 4);ext iY;have fork:(?j6)\/(?s1/\?cI=1)\/(?s1/\¬?cI=1)\/0<fam:=O9m
 have pV:¬?j6->¬(?LX):=fun z q=>z (by simpa using q);have Ap0:?j6->?LX:=fun z=>by simp[z]
 have hb0:0<letters:=hl0;have hb1:letters<1073741824:=O9m
 rcases fork with hz|⟨hz,h1⟩|⟨hz,h1⟩ | hz
 . ext bA;refine ?SI (Ap0 hz);refine ?F2;ext b9;ext e0;ext e2;ext b9;ext e0;have hW:∀w:?kQ,w.length=(?cI+1).toNat->?y0:=fun w e=>?m ⟨hz,O9m,O9m⟩;ext sH
   refine Cn (lo:=0) (n:=(?cI+1:Int).toNat)
    (?OV (?e (?cI+1)))
    ?qC ?_ ?_
   . ext iZ
     ext Q
     ext zL
   . ext sI
 . ext bA;refine ?tV;ext b9;ext AC;ext bA;refine ?QK (eqI h1);ext b9;ext e0;have hW:?AR:=fun w e=>?s (?m ?C5);ext sH
   refine Cn (lo:=0) (n:=?DU)
    (?OV (?e (?cI)))
    ?qC ?_ ?_
   . ext iZ
     ext Q
     ext zL
   . ext sI
 . ext bA;refine ?tV;ext b9;ext AC;ext bA;refine ?SI (neI h1);ext b9;ext e0;have hW:∀w:?kQ,w.length=?DH->?y0:=fun w e=>?s (?m ⟨hz,?s (?s e)⟩);ext sH
   refine Cn (lo:=0) (n:=?DH)
    (?OV (?e (3)))
    ?qC ?_ ?_
   . ext iZ
     ext Q
     ext zL
   . ext sI
 . ext bA;refine ?tV;ext b9;ext e0;ext e2;ext b9;ext AC;ext iY;have hW:?AR:=fun w e=>?s (?s ?C5);have hb0:0<fam:=hz;have hb1:fam<1073741824:=O9m
   ext sH
   refine Cn (lo:=0) (n:=?DU)
    (fun i σ H2=>Th fun ?lX ?oQ ?kC ?qB=>B4 (σ=[?q8,?bE,?gM,?T4 (?cI),?bE,?b7,o]) ?eG ?s7 ?nF)
    ?qC ?_ ?_
   . ext iZ
     ext Q
     revert σ;refine Wt ?_;intro c' v o w s2 tv hwl Ei;obtain⟨a,rfl,Xm⟩:=tv.sq;refine ?EO;have s3:?RH pt (?A [?e (c'%fam)]):=?B zL;refine ?B0;refine ?DB;refine(?SP [c'%fam]);rw[qb4];exact q3
   . ext sI
noncomputable abbrev Ir:Stmt:=top 3
theorem Tu:?v ?r0 ?r0 (Au Ir):=Bj
theorem T5[?x](F:E4 K ?s6 ?s6 Ir f fd)[?w][?zZ]:?ON ?r0 Hr:=by
 refine ?P4 Tu;obtain⟨x,d,b,rfl,hx,k⟩:=h;refine(?RS Ga (Od (pL kE P5 Am ?i ?l)));refine⟨_,rfl,x,d,rfl,hx,_,rfl,?_⟩;ext sQ
 . obtain⟨i,rfl⟩:=HB e;cases (show x=?b5 from hx);ext b9;refine ?dP (fun e1=>?_) (fun e1=>?_)
   . refine ?F2;have e2:?u3=?vR:=by show(?a6 (0<=i)&&?vR)=_;rw[e1];rfl
     ext j1
   . have e2:?u3=false:=by show(?a6 (0<=i)&&?vR)=_;simp at e1;ext bC
     ext j1
 . have e2:belowD d b=false:=by
    cases d<;>first | rfl | (exfalso;exact e rfl)
   ext j1
noncomputable abbrev HZ:Stmt:=top 15
theorem Xx:?v [?fF,?dL,?iA,?cF,?bJ] ?mI (Au HZ):=Bj
theorem UI[?x](F:E4 K ?oO ?oO HZ f fd)[?w][?ND]:?ON ?mI jZ:=by
 refine ?P4 Xx;obtain⟨a,b,ms,ns,rfl,ha,hb,hm,hn,k⟩:=h
 refine⟨_,(Ae (?P7 Xx.nd (?TR ?aI))
  (Ae (Ob (B8 qb5 rfl ?BZ (?PC Xx.nd (?T3 4 Xx.nd)) (?S4 Q3 ?q)))
  ?l4)),?_⟩
 ext F
 refine⟨_,rfl,a,?aP,rfl,ha,?aR⟩;have m9:b≠D:=?JM;refine ?Q6 ?gB (by rw[?pB];exact hb);refine ?BP
 let Bn0:?aO:=fun i σ H1=>Ju fun o1 o2=>B4 (σ=[?n,?bF,?C,o1,o2]) (H1 b=?c (?Q1 ?gB)) (?hP=?TE (?I9)) ((∀c q,?jA->?FW))
 refine V4 (d:=b) (o:=o) (kvs:=?gB) Bn0
  ?M2 (fun i σ H1 _ hz=>?GF) ?_ ?_
 . rw[?CA,Ab];rfl
 . intro c q n1 n2 e;rw[?iS,?iT];exact e
 . rintro i kk x σ H1 p hx C0 hp
   ext Q
   ext gT;intro o1 o2 hb1 El hk1 Ei;ext f9;have npb:b≠p:=Ao hb1 hp;have npD:D≠p:=Ao El hp;have hlt:?w6:=?xZ;ext iV;refine⟨_,rfl,_,rfl,_,rfl,D,?I9,q.1,q.2,rfl,(by rw[Ai npD];exact El),?_,?_⟩
   . have:=fW (ns.take i) ms;ext t5
   . refine⟨_,_,rfl,?_,?_,?zJ⟩
     . rw[?pB,Ai npb];exact hb1
     . rw[Ab,ME hq]
     . rw[?iT,Ai (Ao (?JH) hp)];exact ?JH
 . rintro σ H1 C0;ext gT;intro o1 o2 hb1 El hk1 Ei;rw[Ka,qd0]at El;refine⟨hb1,_,rfl,k D _ hD (?l9) (?n9)⟩;ext fA
   . ext lQ
   . rw[?c1];exact hk1 c q z ?LS e
noncomputable abbrev Hw:Stmt:=top 33
theorem Sf:?v ?gC ?gC (Au Hw):=Bj
theorem Sz[?x](F:E4 K ?mQ ?mQ Hw f fd)[?w][?zY]:?ON ?gC D8:=by
 refine ?P4 Sf;obtain⟨a,i,xs,rfl,hL,E3,k⟩:=h;obtain⟨us,hq,Xl⟩:=?lI hL;obtain⟨_,us',z,hq',r⟩:=id hL;refine(?WP (Bb (Cd (N':=[?cF,?m0,"k"]) (cap:=[none,none,?f0]) ?g ?X (?RY T3 ?aI) (?OK (?V7 (?T3 0 wK) (?T3 1 wK))) (?OK (Xy (Be Fg (?T5 F9 ?V) ?o ?t))) (?OK ?i))));cases z;refine⟨_,rfl,a,rfl,⟨us',hq'⟩,?aR⟩;have Bb0:us'.length=xs.length:=?mO
 let Bm9:?a4:=fun j ys τ H1=>D6 (j<=us'.length) ?g2 ?eS (ys=(Vk xs i j).map ?Y) (?QR [o1,o2,?bM])
 refine bQ (K:=K) (a:=a) (xs:=us') Bm9
  ⟨?aQ,?cJ,Ab,rfl,?j,?j,rfl⟩ (fun j ys τ H1 _ hz=>by obtain⟨_,s1,_⟩:=hz;exact ?eO hq') ?_ ?_
 . rintro j v ys τ H1 p hv C0 hp;revert τ;refine WN ?_;intro hj s1 El hys o1 o2 Ei;have hj2:j<us'.length:=?pE;have hj3:j<xs.length:=O9m
   obtain⟨dv,QT,rv⟩:=r.getV hv
   have edv:dv=tI (?wG):=by
    rw[qa9,qa0 hj3]at QT;rw[qa3,qa0 hj3];simpa using QT.symm
   subst edv;have sp:?UA p [?e j,v]:=?cA;ext iV;refine⟨_,rfl,v,?E4,rfl,?s (?H (?o4) rv),_,rfl,rfl,_,rfl,?_⟩;rw[show(?E4).length=?K2 from ?j8];have hDp:(?PK p [?e j,v]) D=?e3:=?IX;have yl:ys.length<=j:=by rw[hys,qa4];exact Gp ..
   ext lP
   . have h3:?EW:=?cG
     refine⟨_,rfl,hDp,?aS,O9m,(?o4).turn hD,Ab,?_,_,_,rfl⟩;rw[pF h3,qb4,hys];rfl
   . have h3:¬?EW:=?cG
     refine⟨O9m,?o4,hDp,?_,_,_,rfl⟩;rw[uA h3];exact hys
 . rintro ys τ H1 ⟨_,s1,El,hys,_⟩;rw[Bb0]at hys;refine k D H1 hD s1 ?_;rw[El,hys];rfl
noncomputable abbrev Gi:Stmt:=top 37
theorem Pr:?v ?oV ?oV (Au Gi):=Bj
theorem P7[?x](F:E4 K ?pY ?pY Gi f fd)[?w][?zZ]:?ON ?oV Jm:=by
 refine ?P4 Pr;obtain⟨a,n,f,rfl,hq,hn,k⟩:=h;refine⟨_,(?V8 (Me (?TF ?k0 ?i) (Me (Oe Fg ?h4 ?l ?t) (Od (?W2 (Cd (N':=[?bJ]) (cap:=?i1) ?g ?X ?j7 (?OK (?T3 0 pZ)) ?a7 (?OK (?T5 Ga ?aI)))))))),?_⟩;refine⟨_,rfl,?fV,?hJ,dL n f,rfl,?s (?s (?s (?s (?bZ)))),RI hq,_,rfl,?_⟩;refine ?SI (by simp[KN,dL]);refine⟨_,rfl,a,_,rfl,?h7,_,rfl,rfl,_,rfl,?_⟩;refine ?SI (isI (?tW));ext sL
 let Bm8:?a4:=?U0 ?i3
 refine Cw (K:=K) (a:=a) (xs:=VI n f) Bm8
  ?iQ (?PQ ?rL) ?_ ?_
 . ext sK;ext A9;obtain⟨hi,rfl⟩:=We hx;refine⟨_,rfl,_,?e (f i),rfl,rfl,El,?vX,?vM,Ab,?_,_,rfl⟩;rw[qv0,qb4];rfl
 . ext A6;refine⟨D,?JZ,rfl,?wX,?_⟩;rw[?SV ?JZ];exact ?hE
noncomputable abbrev Vg:Stmt:=top 39
theorem HW:?v ?fK ?fK (Au Vg):=Bj
theorem IE[?x](F:E4 K ?p3 ?p3 Vg f fd)[?w](DH:Has P w K mg ?d ?JT [?a3,"j"] 1 (aR K)):?ON ?fK Io:=by
 refine ?P4 HW;obtain⟨v,h,w,f,rfl,hv,hh,hw,k⟩:=h;refine(?VV (Cd (N':=["j",?a3]) (cap:=?u0) ?g ?X (?P8 ?V) (?OK (?T3 0 yY)) ?a7 (?OK (?T5 DH (Aa ?l ?aI)))));ext sM
 let Bm7:?a4:=fun i ys τ H1=>Em fun as=>B4 ?oK ?q7 (?cX H H1 D as h (fun i j=>f j i)) (?P6 [o,?b7])
 refine Hn Bm7
  ?kU ?_ ?_
 . ext OB;have hi2:i<w:=O9m
   refine⟨_,rfl,_,rfl,v,h,w,i,f,?B2,?JP,hh,hi2,?u1⟩;ext zM
 . ext zO
noncomputable abbrev iA:Stmt:=top 41
theorem tQ:?v ?oH ?oH (Au iA):=Bj
theorem uJ[?x](F:E4 K ?oF ?oF iA f fd)[?w](Z5:Has P w K mg ?d ?KC [?tY,"i"] 1 (Yh K)):?ON ?oH BZ:=by
 refine ?P4 tQ;obtain⟨n,rfl,hn,k⟩:=h;refine(?VV (Cd (N':=["i",?tY]) (cap:=?u0) ?g ?X (?P8 ?aI) (?OK (?T3 0 yX)) ?a7 (?OK (?T5 Z5 (Aa ?l ?aI)))));ext sM
 let Bm6:?a4:=fun i ys τ H1=>Em fun as=>B4 ?oK ?q7 (?cX H H1 D as n (?QC 0)) (?P6 [o,iS n])
 refine Hn Bm6
  ?kU ?_ ?_
 . ext OB;refine⟨_,rfl,_,rfl,n,i,?B2,hn,?u1⟩;ext zM
 . ext zO
noncomputable abbrev N2:Stmt:=top 43
theorem Go:?v [?hH,?a3,?b1,?iA,?bJ,?g3] ?yB (Au N2):=Bj
theorem y4[?x](F:E4 K ?rB ?rB N2 f fd)[?w][?zV]:?ON ?yB Ro:=by
 refine ?P4 Go;obtain⟨x,v,h,w,a,f,rfl,hx,hv,hh,hw,hm,k⟩:=h;obtain⟨tb,us,rfl,hq,Xl,On⟩:=?jR
 refine⟨_,(Ae (?P2 ?sG (Br PN ?AH ?o))
  (Ae (B8 qb5 rfl (?VR ?c3) (?V7 (?PR ?sG) (?T3 5 ?sG)) (Ah (?P2 ?sG (?T5 Ja (Aa Am (Aa ?q (Aa ?E ?dX)))))))
  (?V8 ?q))),?_⟩
 ext F
 refine ?OJ (fun σ' H'=>Em fun T=>B4 (σ'=[rS x,rS tb,iS w,rS T,none,none]) (?U2 T) ?bG (?VF T (VI w ?EL)))
 . refine⟨?aJ,fun l0 hl0=>?_⟩;have s0:?RB l0 ?nZ:=?B hl0;refine⟨_,rfl,l0,_,_,rfl,rfl,Ab,O9m,O9m,?jC,?EU⟩;refine ?OM ⟨T,rfl,?mN hT,?wB (?B hT),?_⟩;rw[Ab,qe3,Ab1]
 refine O0 fun T0 H1 hT0 s1 hT1=>?_;intro sq;refine⟨_,rfl,_,rfl,x,tb,rfl,⟨_,?eO hx⟩,(?VU ?rL),?_⟩
 refine vE (K:=K) (a:=x) (b:=tb) (xs:=VI h a) (ys:=us) (n:=h) (by rw[Bu,Xl,qx1]) (fun i σ H2=>Nv fun T o1 o2=>B4 (σ=[rS x,rS tb,iS w,rS T,o1,o2]) (?U2 T) ?eG (H2 T=?TA (VI w fun j=>Al (fun k=>a k*f k j) i)))
  ⟨T0,?j,?j,rfl,hT0,s1,hT1⟩ (fun i σ H2 _ hz=>by obtain⟨_,_,_,_,_,s2,_⟩:=hz;exact⟨?mD hx,?mD hq⟩) ?_ ?_
 . rintro i u v σ H2 pr hu hv C0 hp;ext iX;intro T o1 o2 hT s2 hT2 Ei;obtain⟨hi,rfl⟩:=We hu;obtain⟨_,b,rfl,hb⟩:=On i _ hv;have sp:?RH pr (?A [?e (a i),?qI]):=?cA;ext NO;refine⟨_,rfl,_,rfl,_,rfl,1,a i,T,b,w,_,f i,rfl,?OQ sp hT2,(?tL).seq hb,O9m,fun j hj=>⟨?wW,hm i j hi hj⟩,fun D H3 hD s3 FZ=>?_⟩;refine⟨D,_,_,rfl,(?tL).free hD,?QV ?tL s3,?_⟩;rw[FZ]
   congr 2
   refine Qt fun j hj=>?_;show 1*_+_=Al _ i+_;rw[qd5]
 . rintro σ H2 C0;ext iX;intro T o1 o2 hT s2 hT2 Ei;exact⟨_,rfl,k T H2 hT s2 hT2⟩
noncomputable abbrev Pt:Stmt:=top 47
theorem Nz:?v [?fT,?xF,?bJ,"i","face"] ?tK (Au Pt):=Bj
theorem CJ[?x](F:E4 K ?rP ?rP Pt f fd)[?w][?ND]:?ON ?tK Tp:=by
 refine ?P4 Nz;obtain⟨a,v,ms,fs,n,rfl,ha,hv,hm,kq⟩:=h;obtain⟨af,rfl,sq⟩:=TI.sq hv;refine(?WP (B8 qb5 rfl (?RY pH ?V) (?PC Nz.nd (?T3 4 Nz.nd)) (Ah (Bx (?T5 Q3 (?VX ?E (Y6 (Be Fg (Br Iy ?q Am) Am ?t) ?o (M4 Im ?o))))))))
 let Bm5:?aO:=fun i σ H1=>∃o1 o2,σ=?AK/\Np a H H1/\H1 a=?TE (?B6)
 refine⟨_,rfl,af,rfl,(?VU sq),nA (K:=K) (a:=af) (xs:=?FH) Bm5
  ⟨?j,?j,rfl,fun _ _ _ e=>e,ha⟩ (fun i σ H1 _ ⟨_,_,_,s1,_⟩=>Ed.x s1 ha sq) ?_ ?_⟩
 . rintro i x σ H1 p hx C0 hp
   ext Q
   refine ex2 ?_ C0;clear C0;intro o1 o2 C0;refine Bj3 ?_ C0;clear C0;rintro rfl s1 ha1;have hi:i<fs.length:=?jS
   have hxv:x=?kR:=by
    ext zU
   subst hxv;have sp:?UA p [?b5,?kR]:=?cA;have ha2:=?S0 ha1;have hl:=Vs ms fs n i;ext iV
   have fin:∀m,m=Xv n i->Qy K [?fV,?kR,?e m] (?PK p [?b5,?kR]) (fun v H'=>∃o1 o2,([?n,rS af,iS n,?bV,?c (?kR)]:St)=?AK/\Np a H H'/\H' a=?TE (Ho ms fs n ?aW)) E0:=by
    intro m hm2;subst hm2;refine⟨a,?B6,_,_,rfl,ha2,O9m,_,_,rfl,fun c q n1 e=>?_,Ab⟩;rw[?iS];exact ?S0 (s1 c q n1 e)
   refine⟨_,rfl,_,rfl,_,rfl,_,_,rfl,rfl,(?PF 2),rfl,_,rfl,?_⟩;ext aT
   . have h2:?P%2=0:=?S
     exact⟨_,rfl,fin n (by unfold Xv;rw[?aB h2])⟩
   . have h2:¬?P%2=0:=?S
     exact⟨_,rfl,_,rfl,fin (-n) (by unfold Xv;rw[?U h2])⟩
 . rintro σ H1 ⟨o1,o2,rfl,s1,ha1⟩;rw[qa4]at ha1;exact kq H1 s1 ha1
noncomputable abbrev Yt:Stmt:=top 53
theorem U9:?v [?mE,?c5,?iA,"i"] ?t8 (Au Yt):=Bj
theorem mG[?x](F:E4 K ?nK ?nK Yt f fd)[?w][?zV]:?ON ?t8 Ym:=by
 refine ?P4 U9;obtain⟨r,u,as,n,W,f,t,rfl,x,hu,hm,hn,hW,k⟩:=h;have hq:SqL K H r ?i9:=.of x.2.1
 refine⟨_,(Ae (?P7 U9.nd (?TI ?aI))
  (Ae (?P2 U9.nd ?fH)
  (Ae (B7 (Be Fg ?fH Oc ?t) (Ah (?W9 (Cd (N':=[?bJ]) (cap:=?i1) ?g ?X (?P1 Ce ?iP) (?OK (?T3 0 pZ)) ?a7 (?OK (M4 Im ?i))))) (Ah (B7 (Be Fg ?fH Oc ?t) (Ae (?W9 (?VC ?i ?fH))
  (Ah (K0 ?iP (K3 ?o ?fH Fy)))) (Ah (?W9 (?T5 Ja (Aa Am (Aa ?iP (?OL ?fH (?VC ?i ?fH))))))))))
  ?l4))),?_⟩
 ext F
 refine⟨_,rfl,r,?fZ,rfl,?h7,fun L hL=>?_⟩;have sL:?h H (?KU):=?B hL;generalize hHL:?KU=HL at sL;have hLL:HL L=?TA ?i9:=by rw[←hHL];exact Ab
 have hqL:SqL K HL r ?i9:=?kB hq
 have fin:∀(i:Nat) (D:Addr) (H1:Hp),i<n->HL D=none->?JS->?hP=?QI W (TF t f i)->(∀r,r≠i->TF t f r=f r)->H1 L=?TA ?i9/\Q (?f L) (?RI L (?wF i (?f D))):=by
  intro i D H1 hi hD s1 h1 he;have nDL:D≠L:=fun z=>by rw[z,hLL]at hD;cases hD
  refine⟨?V0 hLL,?_⟩;have s2:?h H (?RI L (?wF i (?f D))):=(sL.trans s1).turn hL;refine k L (as.set i D) _ hL s2 (x.made s2 hi Ab (by rw[Ai nDL];exact h1) he) ?bY;rcases qn2 ha with ha | rfl
  . exact⟨?yN,fun z=>x.there.2 a ha (z▸hL)⟩
  . exact⟨?s (sL.free hD),nDL⟩
 cases t with
 | sw i j=>exact hm.elim
 | mi i =>
   have hi:i<n:=hm;obtain⟨ta,vs,rfl,hT,rT⟩:=hu;obtain⟨_,_,rfl,rfl,_,_,rfl,rfl,rfl⟩:=rT;have hT1:Ed K HL ta [V.str "minus",?Y i]:=?DC;obtain⟨b,_,eb,_,hb⟩:=?AO;ext O9;ext zS;refine ?SI ?c0;refine⟨_,rfl,_,rfl,r,_,_,_,rfl,rfl,hqL,Bm eb,b,rfl,⟨_,?kB hb⟩,?aR⟩
   let Bm4:?a4:=fun c ys τ H1=>B4 (?JS) ?eS (ys=VI c (fun c=>-(f i c))) ?i3
   refine Cw (K:=K) (a:=b) (xs:=VI W (f i)) Bm4
    ?iQ (fun c ys τ H1 _ hz=>by ext lV;exact ?eO (?kB hb)) ?_ ?_
   . rintro c y ys τ H1 hx C0;ext lU;ext A9;obtain⟨hc,rfl⟩:=We hx;refine⟨_,rfl,_,rfl,El,?HJ,?vM,Ab,?_,_,rfl⟩;rw[Uw]
   . ext A6;rw[Bu]at El;ext MN
     ext MU
 | ad i j m =>
   obtain⟨hi,hj,hij,hm⟩:=hm;obtain⟨ta,vs,rfl,hT,rT⟩:=hu;obtain⟨_,_,rfl,rfl,_,_,rfl,rfl,_,_,rfl,rfl,_,_,rfl,rfl,rfl⟩:=rT;have hT1:Ed K HL ta [V.str "add",?Y i,?Y j,?Y m]:=?DC;obtain⟨bi,_,ebi,_,hbi⟩:=?AO;obtain⟨bj,_,ebj,_,hbj⟩:=?P1 x.row hj;ext O9;ext zS;refine ?I0;ext zS;refine ?I0;refine⟨_,rfl,_,rfl,r,_,_,_,rfl,rfl,hqL,Bm ebi,_,rfl,ta,_,_,_,rfl,rfl,hT1,rfl,_,rfl,_,rfl,ta,_,_,_,rfl,rfl,hT1,rfl,r,_,_,_,rfl,rfl,hqL,Bm ebj,?_⟩;refine⟨1,m,bi,bj,W,f i,f j,rfl,?kB hbi,?kB hbj,hW,fun c hc=>⟨?wW,hm c hc⟩,?xK⟩;ext MN
   ext MU
noncomputable abbrev Fq:Stmt:=E8 ?K0 2
theorem Dd:?v [?aC,"i","j",?fF,?dL,?h0,"a","b","c","d",?g3,"back"] ?fN (Au Fq):=Bj
theorem Qa[?x](F:E4 K ?e8 ?vP Fq f fd)[?w](G0:Has P w K mg ?d ?IK ?mI 1 (Wq K))[?zV]:Bw P w K mg ?d Ex 2 f fd ?fN ?kE:=by
 refine ?P4 Dd;obtain⟨p,C,r,b,sv,n,W,i,j,A,B,s,N,rfl,hC,x,hi,hj,hij,hn,hW,hA,hB,lA,lB,bo,k⟩:=h;ext MT;obtain⟨pr,pb⟩:=x.refs;have rb:=x.ne
 have hc:?EE:=by
  rcases hC with rfl | rfl
  . ext NN
  . ext NG
 refine⟨_,(Ae (?QF 5 (?T5 G0 (Aa ?q ?fO)))
  (Ae (?QF 6 ?f1)
  (Ae (?QF 7 ?f1)
  (Ae (?QF 8 (M4 Im (Br Jn ?E ?f1)))
  (Ae (?QF 9 (Br Jn ?q ?f1))
  (Ae (Av (i:=10) ?g5 ?cM)
  (Ae (?S2 ?aA (?V6 ?u9 ?gA))
  (Ae (?S1 ?c4 (?V6 ?u9 ?cU))
  (Ae (?QF 11 ?cM)
  (Ae (?S2 ?cU (?V6 ?pQ (M4 Im ?c4)))
  (Ae (?S1 (M4 Im ?gA) (?V6 ?pQ ?aA))
  (?V8 ?aL)))))))))))),?_⟩
 ext F
 refine ?OJ (fun σ' H'=>Th fun(L:Addr) (g a c:Int)=>B4 (σ'=[?y,?bM,iS j,iS A,iS B,?b3,none,none,none,none,none,none]) ?bG (Ed K H' L ?CY) (?uU A B g a c))
 . exact⟨_,rfl,_,rfl,A,B,rfl,hA,hB,lA,lB,fun L g a c H1 s1 hL sh=>?OM ⟨L,g,a,c,rfl,s1,hL,sh⟩⟩
 refine Ah7 fun L g a c H1 s1 hL sh=>?_;intro sq;have g0:=sh.pos;have lg:?H1:=?PY lA;ext O7;have la:a.natAbs<L9:=qb8 sh.la lB;have lc:c.natAbs<L9:=qb8 sh.lb lA;have eB:B.fdiv g=B / g:=?o1;have eA:A.fdiv g=?gL:=?o1;have lz':(B / g).natAbs<L9:=qb8 ?jX lB;have lz:(-(B / g)).natAbs<L9:=by rw[qc7];exact lz'
 have lu:(?gL).natAbs<L9:=qb8 ?jX lA;have hp1:=?kD;have hr1:=?V0 ?lA;obtain⟨ci,_,oE,mci,mX⟩:=?qO;obtain⟨cj,_,ecj,mcj,hcj⟩:=?P1 ?p7 hj;obtain⟨di,_,edi,mdi,hdi⟩:=?DF;obtain⟨dj,_,edj,mdj,hdj⟩:=?P1 xb.row hj;have mk:∀{u:Int}{k c U:Nat}{f:Lat.Mat},u.natAbs<L9->Lat.Bits n U big f->k<n->c<U->?KL u (f k c):=fun h1 h2 h3 h4=>iK h1 (h2 _ _ h3 h4);ext OH;ext OH;refine⟨_,rfl,_,rfl,L,_,_,_,rfl,rfl,hL,rfl,_,_,rfl,rfl,cb _,_,rfl,?_⟩;refine⟨_,rfl,_,rfl,L,_,_,_,rfl,rfl,hL,rfl,_,_,rfl,rfl,cb _,?_⟩;refine⟨_,rfl,p,C,dx,fs,_,rfl,hp1,?bP,?gE,l1,_,rfl,r,_,_,_,rfl,rfl,.of hr1,?k1,?_⟩;refine Ap (fun σ' H'=>?VA a/\H1=H') ?_ fun key=>?OM ⟨by rw[←eA,←eB];rfl,rfl⟩;ext bQ;refine ?OJ (fun σ' H'=>Em fun D1=>Lk (?VA a) (Wi r b H1 H') (Kp H1 H') (H1 D1=none) (H' b=H1 b) (?VF r (?GG)) (?VF D1 (VI W fun k=>a*s.1 i k+c*s.1 j k)))
 . refine⟨_,rfl,_,rfl,_,rfl,_,rfl,p,C,dx,fs,_,rfl,hp1,?bP,?gE,l1,_,rfl,r,_,_,_,rfl,rfl,.of hr1,Bm ecj,?_⟩;refine⟨a,c,ci,cj,W,?gH,?pR,rfl,?eO mX,?eO hcj,hW,?R1 la lc,fun D1 H2 El s2 h2=>?_⟩;have nD:D1≠r:=fun z=>by rw[z,hr1]at El;cases El
   refine⟨_,rfl,p,C,dx,fs,_,rfl,(?Q4 hp1),?bP,?gE,l1,_,rfl,r,_,_,i,rfl,rfl,?Q4 hr1,Kh (by ext t3),?_⟩;exact ?OM ⟨D1,rfl,(?l5 s2).l,?TS s2,El,by rw[Ai rb.symm,s2 _ _ (?fX),?fX],Ab,by rw[?nH];exact h2⟩
 refine JS fun D1 H3 sS kp3 n1 b3 r3 d3=>?_;intro sq;have hp3:=sS _ _ pr pb hp1;have kr:?RT as:=?QN na na;have kb:?RT bs:=?QN nb nb;have qr:∀{G:Hp}{k:Nat}{c:Addr},?xC->c∈as->SqL K H c (VI W (s.1 k))->as[k]?=?c c->SqL K G c (VI W (s.1 k)):=fun fr hc _ e=>.of (kr fr hc _ (xa.2.2 _ _ e));have rci:?T2 as ci:=by rw[qa9]at oE;obtain⟨z,e1,e2⟩:=?h2 oE;cases e2;exact e1
 have rcj:as[j]?=?c cj:=by rw[qa9]at ecj;obtain⟨z,e1,e2⟩:=?h2 ecj;cases e2;exact e1
 have rdi:?T2 bs di:=by rw[qa9]at edi;obtain⟨z,e1,e2⟩:=?h2 edi;cases e2;exact e1
 have rdj:bs[j]?=?c dj:=by rw[qa9]at edj;obtain⟨z,e1,e2⟩:=?h2 edj;cases e2;exact e1
 have D1r:D1≠r:=fun z=>by rw[z,hr1]at n1;cases n1
 have D1b:D1≠b:=fun z=>by rw[z,?fX]at n1;cases n1
 refine ?OJ (fun σ' H'=>Em fun D2=>Lk (?VA a) (Wi r b H3 H') (?JE) (H3 D2=none) (H' b=H3 b) (?VF r ((?GG).set j (?eW))) (?VF D2 (VI W fun k=>-(B / g)*s.1 i k+?gL*s.1 j k)))
 . refine⟨_,rfl,_,rfl,_,rfl,_,rfl,p,C,dx,fs,_,rfl,hp3,?bP,?gE,l1,_,rfl,r,_,_,_,rfl,rfl,.of r3,Bm (by rw[ql1 hij];exact ecj),?_⟩;refine⟨-(B / g),?gL,ci,cj,W,?gH,?pR,rfl,qr sS mci mX rci,qr sS mcj hcj rcj,hW,?R1 lz lu,fun D2 H4 Mw s4 h4=>?_⟩;have nD:D2≠r:=fun z=>by rw[z,r3]at Mw;cases Mw
   refine⟨_,rfl,p,C,dx,fs,_,rfl,(s4 _ _ hp3),?bP,?gE,l1,_,rfl,r,_,_,j,rfl,rfl,s4 _ _ r3,Kh (by rw[qi2,qa4,xa.1];exact hj),?_⟩;refine ?OM ⟨D2,rfl,(?l5 s4).l,?TS s4,Mw,?_,Ab,by rw[?nH];exact h4⟩;have e3:H3 b=?uK:=by rw[b3];exact ?fX
   rw[Ai rb.symm,s4 _ _ e3,e3]
 refine JS fun D2 H5 ZV kp5 n2 b5 r5 d5=>?_;intro sq;have e5:H5 b=?uK:=by rw[b5,b3];exact ?fX
 have ZW:=sS.trans ZV;have fY:=ZV _ _ pr pb hp3;have D2r:D2≠r:=fun z=>by rw[z,r3]at n2;cases n2
 have D2b:D2≠b:=fun z=>by rw[z,b3,?fX]at n2;cases n2
 refine⟨_,rfl,p,C,dx,fs,_,rfl,fY,?bP,?fS,l2,_,rfl,b,_,_,_,rfl,rfl,.of e5,Bm edi,?_⟩;refine Ap (fun σ' H'=>?V9 a/\H5=H') ?_ ?HV;ext bQ;refine ?OJ (fun σ' H'=>Em fun D3=>Lk (?V9 a) (Wi r b H5 H') (Kp H5 H') (H5 D3=none) (H' r=H5 r) (?VF b (?FK)) (?VF D3 (VI n fun k=>?gL*s.2 i k+-?c2*s.2 j k)))
 . refine⟨_,rfl,_,rfl,_,rfl,_,rfl,_,rfl,p,C,dx,fs,_,rfl,fY,?bP,?fS,l2,_,rfl,b,_,_,_,rfl,rfl,.of e5,Bm edj,?_⟩;refine⟨?gL,-?c2,di,dj,n,s.2 i,s.2 j,rfl,?SF ZW,?SE ZW,hn,?QU lu (by rw[qc7];exact lz),fun D3 H6 FZ s6 h6=>?_⟩;have nD:D3≠b:=fun z=>by rw[z,e5]at FZ;cases FZ
   refine⟨_,rfl,p,C,dx,fs,_,rfl,(s6 _ _ fY),?bP,?fS,l2,_,rfl,b,_,_,i,rfl,rfl,s6 _ _ e5,Kh (by ext t4),?_⟩;exact ?OM ⟨D3,rfl,(?l5 s6).r,?TS s6,FZ,by rw[Ai rb,s6 _ _ r5,r5],Ab,by rw[?nH];exact h6⟩
 refine JS fun D3 H7 fr7 kp7 n3 r7 b7 d7=>?_;intro sq;have zW:=ZW.trans fr7;have hp7:=fr7 _ _ pr pb fY;have D3r:D3≠r:=fun z=>by rw[z,r5]at n3;cases n3
 have D3b:D3≠b:=fun z=>by rw[z,e5]at n3;cases n3
 refine ?OJ (fun σ' H'=>Em fun D4=>Lk (?V9 a) (Wi r b H7 H') (Kp H7 H') (H7 D4=none) (H' r=H7 r) (?VF b ((?FK).set j (?f D4))) (?VF D4 (VI n fun k=>-c*s.2 i k+a*s.2 j k)))
 . refine⟨_,rfl,_,rfl,_,rfl,_,rfl,_,rfl,p,C,dx,fs,_,rfl,hp7,?bP,?fS,l2,_,rfl,b,_,_,_,rfl,rfl,.of b7,Bm (by rw[ql1 hij];exact edj),?_⟩;refine⟨-c,a,di,dj,n,s.2 i,s.2 j,rfl,?SF zW,?SE zW,hn,?QU (by rw[qc7];exact lc) la,fun D4 H8 eF s8 h8=>?_⟩;have nD:D4≠b:=fun z=>by rw[z,b7]at eF;cases eF
   refine⟨_,rfl,p,C,dx,fs,_,rfl,(s8 _ _ hp7),?bP,?fS,l2,_,rfl,b,_,_,j,rfl,rfl,s8 _ _ b7,Kh (by rw[qi2,qa4,xb.1];exact hj),?_⟩;refine ?OM ⟨D4,rfl,(?l5 s8).r,?TS s8,eF,?_,Ab,by rw[?nH];exact h8⟩;have e7:=r7.trans r5;rw[Ai rb,s8 _ _ e7,e7]
 refine JS fun D4 H9 fr9 kp9 n4 r9 b9 d9=>?_;intro sq;have MZ:=zW.trans fr9;have D4r:D4≠r:=fun z=>by rw[z,r7,r5]at n4;cases n4
 have D4b:D4≠b:=fun z=>by rw[z,b7]at n4;cases n4
 have k19:Kp H1 H9:=((kp3.trans kp5).trans kp7).trans kp9;have u1:?U2 D1:=?gK n1
 have BY:∀{G:Hp}{D:Addr},Kp H G->?CS->?mP:=fun kp e=>by
  cases z:H _ with
  | none=>rfl
  | some o=>exact ?oL e (kp _ (by rw[z];exact fun q=>by cases q))
 have k01:Kp H H1:=?gO s1;have u2:?GB:=BY (?pD kp3) n2;have u3:?U2 D3:=BY ((?pD kp3).trans kp5) n3;have u4:?U2 D4:=BY (((?pD kp3).trans kp5).trans kp7) n4;ext NU
 have hL9:Ed K H9 L ?CY:=by
  rcases hL with h | h
  . exact ?m (by
     have hLr:L≠r:=fun z=>by rw[z]at h;rcases h with h|⟨_,h⟩<;>rw[hr1]at h<;>cases h
     have hLb:L≠b:=fun z=>by rw[z]at h;rcases h with h|⟨_,h⟩<;>rw[?fX]at h<;>cases h
     rcases h with h|⟨q,h⟩
     . exact ?m (?B4)
     . exact ?s ⟨q,?B4⟩)
  . exact ?s h
 refine⟨_,rfl,k L g a c H9 ((?l5 s1).trans MZ) ?DZ hL9 sh ⟨⟨dx,fs,MZ _ _ pr pb hp1,l1,l2,l3,l4,l5⟩,⟨_,xa.two (D1:=D1) (D2:=D2) hi hj hij ?_ (fun a ha=>kr MZ ha) ?_ ?_ ?_,?bY⟩,⟨_,xb.two hi hj hij b9 (fun a ha=>kb MZ ha) ?_ ?_ ?_,?bY⟩,rb,x.nr,x.nb,fun a ha z=>x.nn a ha (BY ?DZ z)⟩⟩
 . rw[r9,r7,r5]
 . show ?UL D1 i;rw[Lat.blend_row_p hij];exact(fr9 _ _ D1r D1b (fr7 _ _ D1r D1b (ZV _ _ D1r D1b d3)))
 . show ?UL D2 j;rw[Lat.blend_row_q];exact(fr9 _ _ D2r D2b (fr7 _ _ D2r D2b d5))
 . ext NX
 . rcases kI ha with ha | rfl | rfl
   . exact ?vW
   . exact⟨D1r,D1b,nN _ u1⟩
   . exact⟨D2r,D2b,nN _ u2⟩
 . show ?UD D3 i;rw[Lat.blend_row_p hij];exact fr9 _ _ D3r D3b d7
 . show ?UD D4 j;rw[Lat.blend_row_q];exact d9
 . ext NX
 . rcases kI ha with ha | rfl | rfl
   . exact ?oT
   . exact⟨D3r,D3b,nN _ u3⟩
   . exact⟨D4r,D4b,nN _ u4⟩
noncomputable abbrev J0:Stmt:=E8 ?lJ 0
theorem Va:?v ?dQ ?dQ (Au J0):=Bj
theorem Vn[?x](F:E4 K ?c8 ?AT J0 f fd)[?w](Z4:?US P):Bw P w K mg ?d Ex 2 f fd ?dQ (?OU ET):=by
 refine ?P4 Va;obtain⟨p,dx,r,b,rfl,hp,k⟩:=h
 refine⟨_,(Ae (Bx (UE Z4 hr ?g ?s3 (?WK ?l ?aU)))
  (Ah (?P3 ?d0))),?_⟩
 ext F
 refine⟨_,rfl,_,rfl,_,rfl,p,dx,Ac,r,b,rfl,?lL,hp,fun H1 fs hfs hH1=>?_⟩;have hp1:H1 p=?U9 Ac fs:=by rw[hH1];exact Ab
 have s1:?bL p H H1:=by rw[hH1];ext OC
 have hl:fs.length<=2:=by rw[hfs];exact ?IW
 refine⟨qa8 _,fun D hD=>?_⟩;have hDp:p≠D:=Ao hp1 hD;refine⟨_,rfl,p,Ac,dx,fs,rfl,by rw[Ai hDp];exact hp1,T.cl_Stairs,T.na_Stairs_starts,O9m,?_⟩;refine k D _ _ ?_ (by rw[hfs]) (SameX.upd (s1.trans (SameX.of (Same.new hD)))) (by rw[Ai hDp.symm];exact Ab) Ab;cases z:H D with
 | none=>rfl
 | some o=>rw[s1 _ _ hDp.symm z]at hD;cases hD
noncomputable abbrev N6:Stmt:=top 76
theorem Rq:?v [?dT,?jH,?C2,?f6] ?xP (Au N6):=Bj
theorem y9[?x](F:E4 K ?n4 ?n4 N6 f fd)[?w][?NT][?zW]:?ON ?xP Pn:=by
 refine ?P4 Rq;obtain⟨a,b,xs,k,ms,rfl,hL,hb,hok,kq⟩:=h;ext cR
 refine⟨_,(Ae (?TL Gz)
  (Ae (Ob (B8 qb5 rfl ?AI (?T3 3 Rq.nd) (Ae (?VG (?RK ?f7) (O8 (?OS P5 ?q) (P3 (Be Am5 ?q ?h4 ?t))))
  (Ah (?WD ?b2 (O8 (Be Ij (?T5 Ib (?VB ?iP)) ?l ?t) (O8 (?RK (?VB (?UR ?o))) (P3 (?OS Fg (?UR ?o))))))))))
  ?a9)),?_⟩
 ext F
 refine(?SB ?aP);ext dB;refine ?OT [?n,?a1,?bF,none];ext bQ;refine ?OJ (fun σ' H'=>Em fun o3=>σ'=?LE/\?hI)
 . refine ?Q6 ?aP hb;ext A4;have FY:nd ms:=?pW;have hLF:LT K (?HQ) ?l0 xs:=?hQ (?oC) hb hL;have hbF:upd H b ?d1 b=?q0:=Ab;have hFk:∀c q,?jA->H c=?dV->upd H b ?d1 c=?dV:=fun c q n e=>?x2
   generalize ?HQ=F0 at hLF hbF hFk ⊢
   let Bm3:?aO:=?RV ?LE
   refine Nj (d:=b) (o:=o) (kvs:=?aP) Bm3 ?KZ (fun i σ G _ ?LI=>by rw[←e];exact hbF) ?_ ?_
   . ext lR
     ext Q
     revert σ;ext sO;ext f9;obtain⟨⟨h0,h1⟩,hl,hz⟩:=hok.part q ?g0;ext O4;have dg:DGet F0 b (?eX) (?c (?bX)):=?PS hbF;refine⟨_,rfl,?eX,?eX,rfl,rfl,_,rfl,?_⟩;ext zT;ext b9;ext e0;obtain⟨us,OC,Xl⟩:=?lI hLF;refine(?QT us OC);rw[Xl];ext e0;obtain⟨ON,v2,IS,QU,tv2⟩:=?hT hLF h0 h1;refine⟨_,rfl,_,rfl,a,ON,_,_,rfl,rfl,IS,QU,v2,?F7,rfl,?s tv2,_,rfl,rfl,_,rfl,?_⟩;rw[show(?F7).length=?pV from ?j8];refine ?QK (by rw[hl];simp);refine⟨_,rfl,_,rfl,b,?bX,rfl,dg,?bX,?bX,rfl,rfl,_,rfl,?_⟩;ext zT;refine(?UM b dg);refine ?QK (by simpa using hz);exact(?RE _ rfl)
   . ext aG;ext sO;refine⟨hbF,?OM ⟨o3,rfl,?l9⟩⟩;ext fA
     . ext lQ
     . rw[?c1];exact hFk c q z e
 refine vY fun o3 G s=>?_;intro sq;exact kq G s
noncomputable abbrev Mc:Stmt:=top 78
theorem Fa:?v [?dT,?l1,?eM,?f6,"_law_sign",?n2] ?xI (Au Mc):=Bj
theorem Ze[?x](F:E4 K ?s5 ?s5 Mc f fd)[?w][?NA]:?ON ?xI To:=by
 refine ?P4 Fa;obtain⟨a,b,xs,ms,rfl,hL,hb,hm,h4,hch,kq⟩:=h;ext cR
 refine⟨_,(Ae (?P7 ?kZ K4)
  (Ae (Ob (B8 qb5 rfl ?J6 (?T3 3 ?kZ) (Ae (?PM ?kZ (?UR ?l))
  (Ah (B8 qb5 rfl (?P1 Ua ?iP) (?T3 5 ?kZ) (Ae (Tz ?aY ?o ?aL (Br Dl (?W6 ?o ?aL) ?E) ?g)
  (Ah (?PM ?kZ (Br Ix Am ?E)))))))))
  (?V8 (?T5 Da ?aU)))),?_⟩
 ext F
 refine ?OJ (fun σ' H'=>Em fun ?b8=>B4 (σ'=[?n,?bF,?C,none,none,none]) ?j5 ?bG (?T8 []))
 . exact ?z3
 refine O0 ?xK;ext OG;have vC:=?eC;refine ?OJ (fun σ' H'=>Nv fun o1 o2 o3=>E5 (σ'=?J4) ?bG (?T8 (?H7)))
 . refine ?Q6 ?aP hb1;have FY:nd ms:=?pW;ext A4
   refine Nj (d:=b) (o:=o) (kvs:=?aP) (fun i σ G=>Nv fun o1 o2 o3=>B4 (σ=?J4) ?DG (?VN ?iM) ((∀c q,?jA->?gP->?xO->?nP)))
    ⟨?j,?j,?j,rfl,Ab,?n9,?D7⟩ (?QA _) ?_ ?_
   . ext lR;ext iX;intro o1 o2 o3 dG D7 MT Ei;obtain⟨q,hq2,rfl,rfl⟩:=Le hx;have hlt:?GW:=(?k5 hq2).1;have hqd:?k3=q:=by rw[qa3,hq2];rfl
     have hat:?SM ms:=Et FY ?KX;have hin:=hch q ?KX
     have iU:?F0:=by
      have e1:Np b H1 (?QZ H1):=?oC
      have l1:=?hQ e1 hb1 vC;have d1:(?QZ H1) D=?TE []:=?n9
      have e2:Np D (?QZ H1) G:=fun c r n e=>by
       ext fA
       . subst z;rw[Ab]at e;cases e;exact dG
       . rw[?c1]at e;exact ?DY
      exact ?hQ (m:=cK []) e2 d1 l1
     refine⟨_,rfl,_,rfl,b,?bX,rfl,?KF,?_⟩;obtain⟨us,v,OC,QU,tv⟩:=?hT iU hin.1 hin.2;obtain⟨av,rfl,sqv⟩:=TI.sq tv
     have hfl:?pV<=4:=by
      ext NV
      . exact ?wR
      . rw[z];exact ?aQ
     have zl:=CV h4 ms i
     have step:R8 xs ms ?aW=m8 ?iM (?kJ) q.2 ?pV:=by
      show m8 ?iM (?w3) (?k3).2 (?w3).length=_;rw[hqd]
     rw[step];obtain⟨fs,hfs⟩:∃fs,fs=?kJ:=?bT
     rw[←hfs]at sqv hfl ⊢;refine⟨_,rfl,_,rfl,a,us,_,_,rfl,rfl,OC,QU,av,rfl,(?VU sqv),?_⟩
     refine kU (K:=K) (a:=av) (xs:=?FH) (fun m σ G2=>Em fun o3=>E5 (σ=[?n,?bF,?C,?CX,?T4 (?D5),o3]) (G2 D=?TE (m8 ?iM fs q.2 m)) (Np D G G2))
      ⟨o3,rfl,D7,fun c r n e=>e⟩ (fun m σ G2 _ hz=>by obtain⟨_,_,_,st⟩:=hz;exact Ed.x st D7 sqv) ?_ ?_
     . rintro m y σ G2 hy C0;revert σ;refine WV ?_;intro o3 Mw st Ei;have hm2:m<fs.length:=by have:=?z9;ext a5
       have hyv:y=?T1 m:=by
        rw[qa9,qa0 hm2]at hy;rw[qa3,qa0 hm2];simpa using hy.symm
       subst hyv;have lz:=cW ?iM fs q.2 m;refine⟨_,rfl,D,rfl,?m (?VU ?wD),_,rfl,_,Q6 (?wD),_,rfl,Ay (m8 ?iM fs q.2 m) (fs.getD m 0),_,?rR,rfl,_,rfl,_,rfl,D,_,rfl,Uj Mw O9m,?_⟩;refine⟨_,rfl,_,_,rfl,rfl,?c (?T1 m),?_,Ab,fun c r n e=>by rw[Ai n];exact st c r n e⟩;have:Xv q.2 (m+1)=0-?D5:=by unfold Xv;split<;>split<;>omega
       rw[this];rfl
     . rintro σ G2 C0;revert σ;refine WV ?_;intro o3 Mw st Ei;rw[qa4]at Mw;exact⟨_,_,_,rfl,st _ _ m9 dG,Mw,fun c r n1 n2 e=>st c r n2 (?z1)⟩
   . ext aG;refine Wu ?_;intro o1 o2 o3 dG D7 MT Ei;rw[Ka]at D7;refine⟨dG,?OM ⟨o1,o2,o3,rfl,?l9,?yH⟩⟩;ext fA
     . ext lQ
     . ext OF
 refine vW fun o1 o2 o3 G sG D7=>?_;have lz:=CV h4 ms ?C6;exact⟨_,rfl,D,?H7,rfl,D7,O9m,?BU⟩
noncomputable abbrev Yy:Stmt:=top 79
theorem Vb:?v [?vE,?IV,?tS,?eM,?f6] ?yF (Au Yy):=Bj
theorem mJ[?x](F:E4 K ?rY ?rY Yy f fd)[?w][?NA]:?ON ?yF ES:=by
 refine ?P4 Vb;obtain⟨a,b,n,ms,ns,rfl,ha,hb,hm,hn,lm,ln,hmul,kq⟩:=h;ext cR
 refine⟨_,(Ae (?P2 Vb.nd (?TR ?aI))
  (Ae (Ob (B8 qb5 rfl ?AI (?PR Vb.nd) (Ah (Tz ?aY ?q ?E (Br Dl (?W6 ?q ?E) (Br ?rI ?l (Lq ?aY ?o ?E ?z))) ?g))))
  (?V8 (?T5 Da ?f7)))),?_⟩
 ext F
 refine ?OJ (fun σ' H'=>Em fun ?b8=>B4 (σ'=[?n,iS n,?bF,?C,none]) ?j5 ?bG (?b4=?c (.dK (?aP))))
 . exact⟨_,rfl,a,_,rfl,?yN,?z3⟩
 refine O0 ?xK;intro sq;ext OG;refine ?OJ (fun σ' H'=>Em fun o4=>E5 (σ'=?CG) ?bG (?T8 (FU ms n ns ?HZ)))
 . refine ?Q6 ?gB hb1;refine ?BP
   let Bm2:?aO:=fun i σ G=>Em fun o4=>B4 (σ=?CG) (G b=?c (?Q1 ?gB)) (?VN ?sB) ((∀c q,?jA->?gP->?xO->?nP))
   refine Nj (d:=b) (o:=o) (kvs:=?gB) Bm2
    ⟨?j,rfl,Ab,?n9,?D7⟩ (fun i σ G _ hz=>?HU) ?_ ?_
   . ext lR
     ext Q
     revert σ;refine KL ?_;intro o4 dG D7 MT Ei;ext f9;have hi:=?xZ;have hqd:?mZ=q:=?IF
     have hat:?SM ns:=Et hn ?g0;have lz:=IP ms n ns i;refine⟨_,rfl,D,rfl,?m ⟨_,?m D7⟩,_,rfl,_,Q6 (?m D7),_,rfl,_,rfl,_,rfl,b,?bX,rfl,?KF,n,q.2,rfl,rfl,?G5,Ay ?sB q.1,n*q.2,?rR,rfl,_,rfl,_,rfl,D,_,rfl,Uj D7 O9m,?_⟩;refine⟨_,rfl,?_,?_,?zJ⟩
     . rw[?pB];exact dG
     . rw[Ab];show _=?c (HO.dK (cK (putI ?sB (?mZ).1 (Ay ?sB (?mZ).1+n*(?mZ).2))));rw[hqd]
     . rw[?iT];exact ?z1
   . ext aG;refine KL ?_;intro o4 dG D7 MT Ei;rw[Ka]at D7;refine⟨dG,?OM ⟨o4,rfl,?l9,?yH⟩⟩;ext fA
     . ext lQ
     . ext OF
 refine Ti fun o4 G sG D7=>?_;intro sq;have lz:=IP ms n ns ?HZ;exact⟨_,rfl,D,_,rfl,D7,O9m,?BU⟩
noncomputable abbrev Kz:Stmt:=top 86
theorem B9:?v [?jM,?g6,?eI,"_law_layer","_law_rows",?jL,"_law_below",?vE,?n2,?BD] ?wP (Au Kz):=Bj
theorem Xh[?x](F:E4 K ?p0 ?p0 Kz f fd)[?w][?N3]:?ON ?wP O6:=by
 refine ?P4 B9;obtain⟨l,us,v,ws,w,fam,rfl,hl,hr0,hv,hw,hlen,k⟩:=h;ext cR
 have s0w:∀u∈[w],?L1:=fun u hu=>by
  have e:u=w:=by simpa using hu
  subst e;exact hw
 refine⟨_,(Ae (?P2 ?cV (G8 ?V))
  (Ae (?PM ?cV ?d0)
  (Ae (B8 qb5 rfl (?P8 ?f5) (?SK 5) (Ae (?PM ?cV (Br (?WH Vt) ?q ?E))
  (Ae (?WN ?cV ?d0)
  (Ae (?W5 ?q (B8 qb5 rfl (?P1 Ce (?T5 Hk (Aa ?gA ?aU))) (?SK 8) (Ah (B7 (?b2 (Ss (Be ?nT ?c4 ?i rfl) (N8 (Be ?nT ?c4 ?aA rfl)))) (Ah (?OP ?aA ?c4)) Bl))))
  (Ah (?P2 ?cV ?aA))))))
  (Ae (Av (i:=9) ?cV (?TI ?aI))
  (Ae (?W5 ?E (?T9 (Be ?nT ?gA ?cU rfl) (?WL ?cU ?j9)))
  (?V8 ?cU)))))),?_⟩
 ext F
 refine⟨_,rfl,?aJ,fun L0 hL0=>?_⟩;have s1:?RB L0 (?p [v]):=?B hL0;refine⟨?aQ,fun R0 hR0=>?_⟩;have s2:?h (upd H L0 (?p [v])) (upd (upd H L0 (?p [v])) R0 ?hM):=?B hR0
 refine⟨_,rfl,?K,?K,Cn (lo:=0) (n:=(4:Int).toNat)
  (fun i σ H2=>GX fun(L R:Addr) (lu ru:?dU) (?qV rows:Aq) (o5 o6 o7 o8 o9:?bW)=>lO (σ=[rS l,?b7,?bE,?b3,rS R,o5,o6,o7,o8,o9]) ?eG (H2 L=?TA lu) (?bH K H2 lu (layer.map tI)) (H2 R=?TA ru) (?bH K H2 ru (rows.map tI)) ((∀u∈layer,?L1)) (Oh ws fam (4-i) ?qV rows=?KG) (layer.length<=4 ^ i) (rows.length<=1000*i))
  ⟨L0,R0,[v],[],[w],[],?j,?j,?j,?j,?j,rfl,?eD,?GM,Reps.one (?rS (?eD) hv),Ab,rfl,s0w,rfl,?bU,?bU⟩ ?_ ?_⟩
 . ext iZ
   ext Q
   ext MS;have hi4:i<4:=?G1
   have h4i:4 ^ i<=64:=by
    have:i=0\/i=1\/i=2\/i=3:=O9m
    rcases this with rfl | rfl | rfl | rfl<;>decide
   have lul:lu.length=layer.length:=by have:=rL.length;ext a5
   ext MZ
   refine⟨_,rfl,_,rfl,L,R,_,_,rfl,rfl,.of hL,.of hR,Cb O9m,fun R1 hR1=>?_⟩;have sa:?h H2 ?eN:=?B hR1;have Bf5:?eN R1=?TA (lu++ru):=Ab
   have rRa:?bH K ?eN (lu++ru) (?RP ?DA):=by
    rw[qb4];exact(?CK).append (?aD sa rR)
   have hLa:=sa _ _ hL;have rLa:?bH K ?eN lu (layer.map tI):=?CK;have sHa:?h H ?eN:=?kV sa;refine⟨?aQ,?IR⟩;have sb:?h ?eN (upd ?eN B ?hM):=?B hB;have hBH:?JN:=sHa.free hB
   refine⟨_,rfl,L,rfl,⟨_,?OQ sb hLa⟩,?dI (K:=K) (a:=L) (xs:=lu)
    (fun j σ H3=>Nv fun ?vQ (o7 o8:?bW)=>B4 (σ=[rS l,?b7,?bE,?b3,rS R1,?T4 (0+i),rS B,o7,o8,o9]) (?h ?eN H3) (H3 B=?yR) (?bH K H3 bu (?RP ?KA)))
    ⟨[],_,_,rfl,sb,Ab,rfl⟩ (fun j σ H3 _ hz=>by obtain⟨_,_,_,_,s3,_⟩:=hz;exact ?OQ s3 hLa) ?_ ?_⟩
   . rintro j x σ H3 hx C0
     ext Q
     ext iX;intro bu o7 o8 s3 hB3 rB Ei;have hj:j<lu.length:=?h5;have hjl:j<layer.length:=O9m
     have hjx:(layer.map tI)[j]?=?c (tI ?lE):=?GQ
     obtain⟨x',hx',tx⟩:=rLa.get hjx;rw[hx]at hx';cases hx';have hwj:Fw fam ?lE:=hWl _ (qe0 _);refine⟨_,rfl,_,rfl,x,?lE,fam,rfl,?HA,hwj,fun p fu H4 hp s4 Q2 r4=>?_⟩;have fl:=Ko hwj;have ful:fu.length=?wS:=by have:=r4.length;ext a5
     have hpB:p≠B:=fun z=>by rw[z,hB3]at hp;cases hp
     have hB4:=s4 _ _ hB3
     refine⟨p,rfl,(?PE Q2),?dI (K:=K) (a:=p) (xs:=fu)
      (fun m σ H5=>Ju fun ?vQ ?uR=>D6 (σ=[rS l,?b7,?bE,?b3,rS R1,?T4 (0+i),rS B,?c x,o8,o9]) (?bL B H4 H5) (H5 B=?yR) (?bH K H5 bu (?RP ?gG)) (?EG<=1000))
      ⟨bu,_,rfl,SameX.refl _ _,hB4,(by simpa[Db]using ?aD s4 rB),?_⟩ (fun m σ H5 _ hz=>by obtain⟨_,_,_,s5,_⟩:=hz;exact .of (s5 _ _ hpB Q2)) ?_ ?_⟩
     . have:=?G9;simp only[List.take_zero,Db,qm3,qc8]at this ⊢;omega
     . rintro m y σ H5 hy C0
       ext Q
       revert σ;refine WU ?_;intro bu5 o8' s5 WZ TV Be5 Ei;have hm:?BX:=?z9;have hmf:m<?wS:=O9m
       have hmy:(?RP ?k2)[m]?=?c (tI ?D4):=?C1
       obtain⟨y',hy',ty⟩:=r4.get hmy;rw[hy]at hy';cases hy';generalize hf:?D4=fc at ty;have ty5:TI K H5 y fc:=TI.t (s5.t hB4) ty
       have hl5:H5 l=?hS:=by
        refine s5 l _ (?o8) (s4 _ _ (?Q8 (sHa _ _ hl)));rw[z]at hl;rw[hl]at hBH;cases hBH
       have rl5:Rep K H5 (?f l) (?p (?hA)):=⟨l,us,rfl,.of hl5,Reps.t (s5.t hB4) (Zz ws) (?aD ((sHa.trans s3).trans s4) hr0)⟩
       have rb5:Rep K H5 (?f B) (?p (?RP ?gG)):=⟨B,bu5,rfl,.of WZ,TV⟩
       have e0:?EQ=(if fc ∉ ws/\fc ∉ ?gG then ?gG++[fc] else ?gG):=by
        rw[qe7,?vN,hf];exact W8 _ _ _ _
       have Be4:bu5.length=?EG:=by have:=TV.length;ext a5
       have qR:(?EQ).length<=1000:=by
        have h1:=Tb (ws:=ws) (?wH (m+1)) ?m2;have h2:=?G9;simp only[qm3,qc8]at h1 h2;have h3:?wS<=4:=by have:=fl.1;have:=fl.2;split at*<;> omega
        omega
       generalize hacc:?gG=acc at TV rb5 e0 Be4 Be5;refine⟨_,rfl,_,rfl,tI fc,?hA,ty5,?m rl5,(by have:=Qo ws;omega),_,rfl,?_⟩;by_cases h1:fc∈ws
       . ext OE;ext e2;refine ?AS;rw[e0,?U (by simp[h1])];exact TV
       . ext OD;refine(?Q2 ty5 rb5);by_cases h2:?E6
         . refine ?QK (by rw[?bI,Ta];simp[h2]);refine ?AS;rw[e0,?U (by simp[h2])];exact TV
         . refine ?SI (by rw[?bI,Ta];simp[h2]);refine⟨_,rfl,?P0 WZ,_,rfl,B,_,_,rfl,rfl,WZ,?aS,?_⟩;refine⟨_,_,rfl,s5.upd,Ab,?_,qR⟩;rw[e0,?aB ⟨h1,h2⟩];exact Oa WZ TV ty5
     . rintro σ H5 C0;revert σ;refine WU ?_;intro bu5 o8' s5 WZ TV _ Ei;refine⟨bu5,_,_,rfl,?_,WZ,?_⟩
       . exact s5.same (?o2) hB
       . rw[ful,qd0]at TV;rw[qe7,?xA];have e1:?V2 (layer.take j++(?c ?lE).toList)=Db ws ?m2 (?k2):=g9 _ _ _ _ _;rw[e1];exact TV
   . rintro σ H3 C0;ext iX;intro bu o7 o8 s3 hB3 rB Ei;rw[lul,qd0]at rB;ext iY;refine⟨B,R1,bu,lu++ru,?V2 ?qV,?DA,_,_,_,_,_,rfl,sHa.trans s3,hB3,rB,?Q8 Bf5,?aD s3 rRa,?_,?_,?_,?_⟩
     . intro u hu;rcases Ra _ _ hu with z|⟨t,ht,z⟩
       . exact ?JI
       . exact(Ot (hWl t ht) z).1
     . rw[←hlay,show 4-i=(4-?aW)+1 by omega];rfl
     . have:=Nl (ws:=ws) (fam:=fam) ?qV [] hWl;simp only[qm3]at this;rw[qh0];omega
     . rw[qc3];omega
 . rintro σ H2 C0;ext MS;have Lu:rows=?KG:=hlay;have Bb8:=iQ (ws:=ws) hw;rw[←Lu]at Bb8;ext MZ
   refine⟨_,rfl,l,_,rfl,?m (?OQ sH hl),fun M hM=>?_⟩;have sm:?RH M ?oI:=?B hM;have hMH:?LT:=sH.free hM;have usl:?Q3 ws.length:=by have:=hr0.length;ext a5
   refine⟨_,rfl,R,rfl,⟨_,?OQ sm hR⟩,?dI (K:=K) (a:=R) (xs:=ru)
    (fun j σ H3=>Ju fun(mu:?dU) ?xU=>B4 (σ=[rS l,?b7,?bE,?b3,rS R,o5,o6,o7,o8,rS M]) (?h H2 H3) (H3 M=?TA mu) (?bH K H3 mu (?RP ?h6)))
    ⟨us,_,rfl,sm,Ab,(by simpa[Fn]using ?aD (?kV sm) hr0)⟩ (fun j σ H3 _ hz=>by obtain⟨_,_,_,s3,_⟩:=hz;exact ?OQ s3 hR) ?_ ?_⟩
   . rintro j x σ H3 hx C0
     ext Q
     ext gT;intro mu o7' s3 ZS rM Ei;have hj:j<ru.length:=?h5;have hjl:j<rows.length:=O9m
     have hjx:(rows.map tI)[j]?=?c (tI rows[j]):=?GQ
     obtain⟨x',hx',tx⟩:=rR.get hjx;rw[hx]at hx';cases hx';generalize hf:rows[j]=fc at tx;have tx3:TI K H3 x fc:=?HA
     have e0:Fn ws (?vS (j+1))=(if fc∈?h6 then ?h6 else ?h6++[fc]):=by
      rw[qe7,?xA,hf];exact W9 _ _ _
     have hal:=j4 (?vS j) ws;rw[qc8]at hal;have mul:mu.length=(?h6).length:=?C3
     generalize hacc:?h6=acc at rM e0 hal mul;have rm3:Rep K H3 (?f M) (?p (?x7)):=⟨M,mu,rfl,.of ZS,rM⟩
     refine(?Q2 tx3 rm3);by_cases h1:?E6
     . ext OE;refine⟨mu,_,rfl,s3,ZS,?_⟩;rw[e0,?w5];exact rM
     . ext OD;refine⟨_,rfl,?P0 ZS,_,rfl,M,_,_,rfl,rfl,ZS,?aS,?_⟩;refine⟨_,_,rfl,s3.turn hM,Ab,?_⟩;rw[e0,?tF];exact Oa ZS rM tx3
   . rintro σ H3 C0;ext gT;intro mu o7' s3 ZS rM Ei;rw[rul,qd0,Lu]at rM;exact⟨_,rfl,k M mu H3 hMH (?kV s3) ZS rM⟩
noncomputable abbrev Gh:Stmt:=top 9
theorem Pq:?v ?kI ?kI (Au Gh):=Bj
theorem P6[?x](F:E4 K ?nG ?nG Gh f fd)[?w][?NE][?zY]:?OO ?kI (Fx K):=by
 refine ?P4 Pq;obtain⟨a,x,d,l,xs,rfl,hL,hx,k⟩:=h;obtain⟨us,hq,Xl⟩:=?lI hL;refine(?VV (Me (?T5 Eo (Aa ?l ?pO)) (Od (Oe Fg (?T5 F9 (Aa (Ba ?O ?i ?l ?z) Af)) ?o ?t))));refine⟨_,rfl,_,rfl,a,us,rfl,?h7,x,d,_,rfl,hx,_,rfl,?_⟩;rw[Xl];ext sQ
 . obtain⟨i,rfl⟩:∃i,d=?b5:=by cases d<;>first | exact ?bT | (exfalso;simp[belowD]at e)
   cases (show x=?b5 from hx);have e':?D0:=e;have h0:0<=i/\i<?oM:=by simpa using e'
   obtain⟨us',v,hq',hv,tv⟩:=?hT hL h0.1 h0.2;refine⟨_,rfl,_,rfl,a,us',i,v,rfl,rfl,hq',hv,v,_,rfl,?s tv,_,rfl,rfl,?_⟩
   have e2:Dr xs (?b5) l=?a6 (?QL Fe=l):=by
    show ?S5 _;rw[e'];simp[Fe]
   rw[e2]at k
   have e3:?a6 (?Y (?QL Fe)=?Y l)=?a6 (?QL Fe=l):=by
    by_cases z:?QL Fe=l
    . simp[z]
    . simp[z]
   rw[e3];exact k
 . have e2:Dr xs d l=false:=by
    cases d with
    | int i =>
      have e':¬?D0:=e;show ?S5 false;rw[Bool.eq_false_iff.mpr e'];rfl
    | _=>rfl
   ext j1
noncomputable abbrev L7:Stmt:=top 32
theorem Yr:?v ?nO ?nO (Au L7):=Bj
theorem Za[?x](F:E4 K ?mS ?mS L7 f fd)[?w][?NE]:?OO ?nO (Jv K):=by
 refine ?P4 Yr;obtain⟨i,b,rfl,h0,h1,k⟩:=h;refine(?WP (?PL Eo ?c3));refine⟨_,rfl,_,rfl,?b5,?b5,b,rfl,rfl,_,rfl,?_⟩;rw[show ?u3=true from belowD_of h0 h1];ext e2;exact k
noncomputable abbrev Sl:Stmt:=top 36
theorem eZ:?v ?p2 ?p2 (Au Sl):=Bj
theorem FJ[?x](F:E4 K ?o7 ?o7 Sl f fd)[?w](Hf:Has P w K mg ?d ?pY ?oV 2 (Jm K)):?OO ?p2 (Wm K):=by
 refine ?P4 eZ;obtain⟨v,h,w,f,rfl,hv,hh,hw,k⟩:=h;obtain⟨Wj,gP⟩:=T.x_MOST_ROWS;obtain⟨a,us,rfl,hq,Xl,On⟩:=?jR
 refine⟨_,(Ae (?VG (Ez (Ek (?TF ?k0 ?i))) (P3 (Be fG ?h4 (?WC 40 gP) ?t)))
  (?V8 (?W2 (Cd (N':=?zC) (cap:=?uI) ?g ?X ?j7 (?OK (?T3 0 pW)) ?a7 (?OK (?T5 Hf ?c3)))))),?_⟩
 ext F
 refine⟨_,rfl,?fV,?hJ,dT h w f,rfl,?s (?s (?s (?s (?bZ)))),hv,_,rfl,?_⟩;refine ?QK (by simp[KN,dT]);refine⟨_,rfl,a,_,rfl,?h7,_,_,rfl,rfl,_,rfl,?_⟩;ext e0;ext sL
 let Bm1:?a4:=?U0 (?P6 [o,iS w])
 refine Cw (K:=K) (a:=a) (xs:=us) Bm1
  ?iQ (?PQ ?rL) ?_ ?_
 . ext sK;ext A9;obtain⟨hi,b,rfl,hb⟩:=?LW;refine⟨_,rfl,_,rfl,b,w,f i,rfl,?eO hb,hw,?JA⟩;refine⟨?u8,?vX,?wZ,Ab,?_,_,rfl⟩;rw[qv0,qb4];rfl
 . ext A6;refine⟨D,?HE,rfl,?wX,?_⟩;rw[?SV ?HE];exact ?hE
noncomputable abbrev Vd:Stmt:=top 38
theorem HS:?v ?s9 ?s9 (Au Vd):=Bj
theorem IC[?x](F:E4 K ?oZ ?oZ Vd f fd)[?w](Qk:Has P w K mg ?d ?rB ?yB 2 (Ro K)):?OO ?s9 (Sb K):=by
 refine ?P4 HS;obtain⟨u,v,h,d,w,f,g,rfl,hu,hv,hh,hd,hw,hm,k⟩:=h;obtain⟨a,us,rfl,hq,Xl,On⟩:=Id hu;refine(?VV (Cd (N':=[?g3,?dL,?b1]) (cap:=[none,?f0,?n3]) ?g ?X ?j7 (?OK (?T3 0 An3)) ?a7 (?OK (?T5 Qk (?WK ?l ?aU)))));ext sL
 let Bm0:?a4:=fun i ys τ H1=>Em fun as=>B4 ?oK ?q7 (?cX H H1 D as w (fun i j=>Al (fun k=>f i k*g k j) d)) (?P6 [o,?b7,iS w])
 refine Cw (K:=K) (a:=a) (xs:=us) Bm0
  ?kU (fun i ys τ H1 _ hz=>by obtain⟨as,_,_,R,_⟩:=hz;exact ?dD hq) ?_ ?_
 . rintro i x ys τ H1 hx ⟨as,hal,rfl,R,o,rfl⟩;obtain⟨hi,b,rfl,hb⟩:=?LW;refine⟨_,rfl,_,rfl,_,rfl,b,v,d,w,f i,g,rfl,?dD hb,?JP,hd,hw,fun k j hk hj=>hm i k j hi hk hj,?u1⟩;ext zM
 . ext zO
noncomputable abbrev Sq:Stmt:=top 51
theorem fB:?v ?pU ?pU (Au Sq):=Bj
theorem fN[?x](F:E4 K ?nX ?nX Sq f fd)[?w][?sJ]:?OO ?pU (AR K):=by
 refine ?P4 fB;obtain⟨a,b,xs,k,ns,rfl,hL,E3,hb,hnl,kq⟩:=h;refine⟨_,(Ah (Bb (Ct (f8 ?g) ?g ?dN Eb (Aa (Cd (N':=[?cF,?bJ]) (cap:=?KQ) ?g ?X (?VR (Aa (?T5 Bt ?c3) ?aU)) (?OK (?V7 (?T3 0 pY) (?T3 1 pY))) (?OK (Xy (Be Ij ?l Am ?t))) (?OK (Fc ?c3))) Af)))),?_⟩;refine⟨_,rfl,_,rfl,a,k,xs,rfl,hL,E3,fun P H1 hP s1 hP1=>?_⟩;have pl:?KP:=?tE;have hnd:=Hi xs k;generalize kR:?l2=sp at hP1 hnl pl hnd kq;have hb1:=?eO hb;have hzn:=gZ hnl hnd;have hzl:(?nS).length=sp.length:=by rw[List.length_zip];omega
 refine⟨_,rfl,P,b,rfl,(?PE hP1),(?VU hb1),?aR⟩
 refine gM (K:=K) (a:=P) (b:=b) (xs:=sp.map ?Y) (ys:=?m1) (n:=sp.length) (by rw[qa4,qa4];omega) (fun i zs τ G=>B4 (?h H1 G) (G D=?xX) ((∃ts:?qR,zs=ts.map ?b6/\ts.length=?zK/\∀(j:Nat) t,ts[j]?=?c t->∃p:Int × Int,(Dz ((?nS).take i))[j]?=?c p/\G t=?c (?A [?pS,?e p.2])/\t≠D)) (?QR [o1,o2]))
  ⟨?cJ,Ab,⟨[],rfl,rfl,fun j t z=>by simp at z⟩,?j,?j,rfl⟩ (fun i zs τ G _ hz=>by ext t6;exact⟨?OQ g hP1,g.seq hb1⟩) ?_ ?_
 . rintro i x y zs τ G p hx hy ⟨g,D7,⟨ts,rfl,kQ,hts⟩,o1,o2,rfl⟩ hp;have hi:i<sp.length:=?jS
   have hz:=GZ hnl hi
   have hxv:x=?e (?L3):=by
    ext zU
   have hyv:y=?e (ns.getD i 0):=by
    rw[qa9,qa0 (show ?w6 by omega)]at hy;rw[qa3,qa0 (show ?w6 by omega)];simpa using hy.symm
   subst hxv hyv;have ct:=bO hz;generalize ?L3=sv at hz ct;generalize ns.getD i 0=nv at hz ct;have gp:?h G (?xQ):=?cA;have hp1:(?xQ) p=?c (?QQ nv):=Ab;generalize ?xQ=G1 at gp hp1;have ctl:?zK<=i:=qa6 (kJ _) (by rw[qc8];omega);refine(?QW hp1);ext bA;ext aT
   . have e:¬nv=0:=?S
     rw[?U e]at ct;refine⟨_,rfl,_,rfl,?aJ,?wI⟩;have gt:=gp.trans (?B (o:=?QQ nv) ht);have ntD:t≠D:=(Ao (?D3) ht).symm;have hDt:=gt _ _ D7;have htt:(?I3) t=?c (?QQ nv):=Ab;generalize ?I3=G2 at gt hDt htt;refine⟨hDt,?iJ,?UX gt hD,Ab,⟨ts++[t],?bU,by rw[ct];simp[kQ],fun j t' e2=>?_⟩,_,_,rfl⟩;rw[ct];rw[List.getElem?_append]at e2;split at e2
     . rename_i hj
       obtain⟨p',GY,h2',h3'⟩:=hts j t' e2;exact⟨p',by rw[qc6 ?iF];exact GY,by rw[Ai h3'];exact gt _ _ h2',h3'⟩
     . rename_i hj
       have hj0:j-ts.length=0:=by
        cases hz:j-ts.length with
        | zero=>rfl
        | succ m=>rw[hz]at e2;simp at e2
       rw[hj0]at e2;have et:t=t':=by simpa using e2
       subst et;refine⟨(sv,nv),?_,?_,ntD⟩
       . rw[qd3 ?iF,show j-?zK=0 by omega];rfl
       . rw[Ai ntD];exact htt
   . have e:nv=0:=?S
     rw[?aB e]at ct;rw[ct];exact⟨?cE gp,?D3,⟨ts,rfl,kQ,fun j t z=>let ⟨p',a1,a2,a3⟩:=hts j t z;⟨p',a1,gp _ _ a2,a3⟩⟩,_,_,rfl⟩
 . rintro zs τ G ⟨g,D7,⟨ts,rfl,kQ,hts⟩,_⟩;rw[←hzl,qd0]at kQ hts;refine⟨D,ts,cK (Dz (?nS)),rfl,D7,(by rw[Ka];exact kQ),fun i t e2=>?_,?iO⟩
   . obtain⟨p,GY,h2',_⟩:=hts i t e2;refine⟨(?m p.1,?e p.2),?_,h2'⟩;unfold cK;rw[qa9,GY];rfl
   . refine kq E _ ((?d9 g).free hE) ((?d9 g).trans (?mJ)) ?_;rw[Ab,Of _ [] (by rw[qo2];exact Jo.mpr (An6 hzn)),qo2]
noncomputable abbrev F6:Stmt:=E8 ?K0 1
theorem v6:?v ?eA ?eA (Au F6):=Bj
theorem Rr[?x](F:E4 K ?c5 ?wY F6 f fd)[?w](Uf:Has P w K mg ?d ?nK ?t8 2 (Ym K))(X2:Has P w K mg ?d ?L2 [?c5] 1 (aU K)):?OO ?eA ?l7:=by
 refine ?P4 v6;obtain⟨p,u,C,r,b,sv,n,W,s,N,t,rfl,hC,x,hu,m1,m2,hn,hW,k⟩:=h;ext MT
 have hc:?EE:=by
  rcases hC with rfl | rfl
  . ext NN
  . ext NG
 refine⟨_,(Ae (?P3 (?T5 Uf (Aa ?W ?V)))
  (Ah (E7 (K:=K) ?i (?T5 Uf (?OL ?W (An X2 hr ?V)))))),?_⟩
 ext F
 refine⟨_,rfl,p,C,dx,fs,_,rfl,hp,?bP,?gE,l1,_,rfl,r,u,as,n,W,s.1,t,rfl,xa,hu,m1,hn,hW,fun D1 xF H1 El s1 x1 n1=>?_⟩;have hp1:=?kD;refine⟨_,rfl,p,C,dx,fs,rfl,hp1,?bP,?gE,O9m,?_⟩;have sx1:?bL p H ?jF:=?V4 s1;have Ak0:?bL p H1 ?jF:=?gN
 have hu1:Rep K ?jF u (sV t):=by
  refine Rep.t ⟨fun b xs e=>?_,fun b o u e=>?_⟩ (by cases t<;>rfl) hu
  . ext O3
  . ext O3
 have hl1:?LH=fs.length:=M3 l1;have hp2:?jF p=?U9 C (?R3 fs):=Ab;have x2:=x1.x hp1 Ak0;have sY:=xb.x hp sx1
 have VD:∀a,?SN ?jF->?hV:=fun a e=>by
  by_cases hap:a=p
  . rw[hap,Ab]at e;cases e
  . rw[Ai hap]at e;exact ?gK e
 generalize hH2:?E9=H2 at sx1 Ak0 hu1 hp2 x2 sY VD;refine⟨_,rfl,p,C,dx,_,_,rfl,hp2,?bP,?fS,(by ext sR;exact l2),_,rfl,u,t,rfl,hu1,fun u2 H3 s3 hu3=>?_⟩;refine⟨b,u2,bs,n,n,s.2,tnA t,rfl,?v4 s3,hu3,m2,hn,hn,fun D2 bs2 H4 Mw s4 x4 n4=>?_⟩;have OA:=?o2;have Q2:=OA _ _ hp2;refine⟨_,rfl,p,C,dx,_,rfl,Q2,?bP,?fS,O9m,?_⟩;have hl2:(?I ?gD (?b6 D2) (?FP)).length=?LH:=M3 (x:=?qI) (by ext sR;exact l2);have yE:?bL p H4 (upd H4 p (?L C dx (?I ?gD (?eW) (?R3 fs)))):=?gN;have f2:?GB:=VD _ (?pI Mw);have dne:D1≠D2:=?RF ?FS ?BJ;ext NU;refine k D1 D2 _ (?cY (sx1.trans (?e4 OA))) El f2 ⟨⟨dx,_,Ab,?_,?_,?_,?h8,O9m⟩,⟨xF,(x2.same OA).x Q2 yE,?bY⟩,⟨bs2,x4.x Q2 yE,?bY⟩,dne,nN _ El,nN _ f2,?p6⟩
 . rw[As,?s4,As,?bI]
 . rw[As,?bI]
 . ext N7;exact l3
 . rw[As,?eP,As,?eP];exact l4 m hm
 . have h1:=(x2.same s3).there.2 a ha;obtain⟨h2,h3⟩:=n1 a ha;refine⟨h3,?RF h1 ?BJ,?_⟩;rcases h2 with h2 | h2
   . exact(na a h2).2.2
   . exact nN a h2
 . obtain⟨h2,h3⟩:=n4 a ha;refine⟨?o8,h3,?_⟩
   . rcases h2 with h2 | h2
     . exact ?w0 a h2 (z▸El)
     . exact ?FS (z▸h2)
   . rcases h2 with h2 | h2
     . exact(nb a h2).2.2
     . exact nN a (VD _ (?pI h2))
 . by_cases hap:a=p
   . rw[hap,Ab]at z;cases z
   . rw[Ai hap]at z;exact x.nn a ha (VD _ (OA.free z))
noncomputable abbrev L8:Stmt:=E8 ?lF 0
theorem Ys:?v ?mM ?mM (Au L8):=Bj
theorem Zb[?x](F:E4 K ?c8 ?KE L8 f fd)[?w][?NF][?OI]:?OO ?mM (EU K Ag Ac Aj):=by
 refine ?P4 Ys;obtain⟨H0,p,dx,v,n,w,M,rfl,s0,fp,hp,hv,hn,hw,k⟩:=h;obtain⟨ta,us,rfl,hq0,Xl,_⟩:=?jR
 refine⟨_,(Ae (?P3 ?l)
  (Ae (?P3 ?o)
  (Ae (?W8 (Aa (?T5 Rv (?VB (?OR ?V))) (?VB (?T5 Rv (Aa (?OR ?V) Af)))))
  (Ae (?W8 (?OL (?T5 Rv ?aU) (?T5 Rv ?aU)))
  (Ah (?P3 ?d0)))))),?_⟩
 ext F
 have mkL:∀{G1 G2 G3:Hp}{D1 D2 L dM:Addr}{xF jN:?qR}{m:Nat}{fs:?y6}{G4:Hp}{N:Addr->Prop},xF.length=m->?cX G1 G2 D1 xF m (?QC 0)->jN.length=m->?cX G2 G3 D2 jN m (?QC 0)->G3 L=none->?h G3 (?R6 L)->fs=?I ?gD (?eW) (?R3 [])->G4=upd (upd (?R6 L) L (?L Ag dM (?R3 []))) L (?L Ag dM fs)->(∀a,N a->G1 a≠none) →
  ?BS/\LX G4 Ag L D1 D2 ?j m m ?dO N:=by
  intro G1 G2 G3 D1 D2 L dM xF jN m fs G4 N hl1 R1 hl2 R2 nL sN hfs zT hN;have hL4:G4 L=?c (?L Ag dM fs):=by rw[zT];exact Ab
  have st:?BS:=fun a o e=>by
   rw[zT,?SL nL,?SL nL];exact sN _ _ e
  clear zT
  have x1:TA G4 D1 xF m m ?fM:=((?JY).same (?sE st)).congr fun i c _ _=>by
   by_cases z:i=c
   . subst z;simp[Lat.one]
   . ext O0
  have x2:TA G4 D2 jN m m ?fM:=((TA.of R2 hl2).same st).congr fun i c _ _=>by
   by_cases z:i=c
   . subst z;simp[Lat.one]
   . ext O0
  have t1:=(?JY).there;have f2:∀a,?SN G2->?DO:=?R7 ?uC;have nN:∀a,?DO->?rA:=?S8 hN;refine⟨st,⟨dM,fs,hL4,?uY,?uY,?uY,?h8,?_⟩,⟨xF,x1,?bY⟩,⟨jN,x2,?bY⟩,fun z=>t1.1 ?CL,nN _ ?nV,nN _ (f2 _ ?nI),fun a ha z=>hN a ha (f2 _ (?nD (st.free z)))⟩
  . ext MP
  . ext N8
  . ext sU;obtain⟨z1,z2,z3⟩:=R1.row i _ ?mY;exact⟨z2,fun z=>t1.2 _ ha ?CL,nN _ z1⟩
  . ext sU;obtain⟨z1,z2,z3⟩:=R2.row i _ ?mY;exact⟨fun z=>t1.1 ?GJ,z2,nN _ (f2 _ z1)⟩
 refine⟨_,rfl,_,rfl,p,Aj,dx,_,rfl,hp,?G,?eH,?bU,?_⟩;refine E9 (fun σ' H'=>?sC/\upd H p (?L Aj dx (?I ?a3 (?iR) []))=H') ?_ ?eF;ext e1;refine ?OJ (fun σ' H'=>?sC/\∃fs,fs=?I ?b1 ?K4 (?I ?a3 (?iR) [])/\?vF/\?K9)
 . refine⟨_,rfl,_,rfl,p,Aj,dx,_,rfl,Ab,?G,?rG,by simp[putF],?_⟩;exact ?OM ⟨rfl,_,rfl,Ab,?cY ?lD⟩
 ext A8;obtain⟨fs2,hf2,hp2,sx2⟩:=EG;have l2:fs2.length<=2:=by rw[hf2];exact ?IW
 have oB:?h H0 H2:=?J1 s0 fp;refine ?OJ (fun σ' H'=>?sC/\∃(L O1 O2:Addr) (fs:?y6),fs=?I ?eK (?f L) fs2/\?vF/\?bL p H2 H'/\Kp H2 H'/\p≠L/\H2 L=none/\H2 O1=none/\H2 O2=none/\?TP H' (?mU))
 . refine⟨_,rfl,ta,us,rfl,?m (oB.seq hq0),n,(by rw[Xl]<;>rfl),O9m,fun O1 os1 G1 hl1 R1=>?_⟩;refine⟨_,rfl,ta,us,rfl,?m ((?y7 R1.same).seq hq0),n,(by rw[Xl]<;>rfl),O9m,fun O2 os2 G2 hl2 R2=>?_⟩;have s2:=R1.same.trans ?fG;intro L dl nL ndl A76;have sN:?QS L L:=?L0 nL;refine⟨L,dl,Ag,?f O1,?f O2,rfl,?bZ,Ab,?D6⟩;obtain⟨st,lx⟩:=?Q9 nL;have Q2:=st _ _ (?Q4 hp2);have uN:p≠L:=Ao (?Q4 hp2) nL;refine(?PX _ ?fI);exact ?OM ⟨rfl,L,O1,O2,_,rfl,Ab,?V4 (?bN st),?TS (?bN st),uN,?hK nL,?nV,?uC ?nI,lx.x Q2 uN ?lD ?c7⟩
 refine Ii fun H3 EG=>?_;intro sq;obtain⟨L,O1,O2,XA,hf3,hp3,sx3,kp3,uN,nL,n1,n2,lx3⟩:=EG;have l3:XA.length<=3:=by rw[hf3];exact qa6 ?g8 (qi7 l2)
 have s03:?h H0 H3:=sx3.same oB fp;refine ?OJ (fun σ' H'=>?sC/\∃(R O3 O4:Addr) (fs:?y6),fs=?I ?iK (?f R) XA/\?vF/\?C9/\?JE/\p≠R/\H3 R=none/\H3 O3=none/\H3 O4=none/\?TP H' (fun a=>?MJ)/\LX H' Ag R O3 O4 ?j w w ?dO (?mU))
 . refine⟨_,rfl,w,rfl,O9m,fun O1' os1 G1 hl1 R1=>?_⟩;refine⟨_,rfl,w,rfl,O9m,fun O2' os2 G2 hl2 R2=>?_⟩;have s2:=R1.same.trans ?fG;intro R dl nR ndl A76;have sN:?QS R R:=?L0 nR;refine⟨R,dl,Ag,?f O1',?f O2',rfl,?bZ,Ab,?D6⟩;obtain⟨st,lx⟩:=?Q9 nR;have Q2:=st _ _ (?Q4 hp3);have wJ:p≠R:=Ao (?Q4 hp3) nR;have n4:H3 O2'=none:=?uC ?nI;refine(?PX _ ?hB)
   have y1:?TP G4 (fun a=>a=O1'\/a=O2'):=lx3.more (?bN st) (fun a ha=>?s (by rcases ha with rfl | rfl;exact R1.free;exact n4)) fun a ha=>by
    rcases ha with rfl | rfl
    . obtain⟨_,z,_⟩:=lx.rw;exact ?C0
    . obtain⟨_,z,_⟩:=lx.bk;exact ?C0
   exact ?OM ⟨rfl,R,O1',O2',_,rfl,Ab,?V4 (?bN st),?TS (?bN st),wJ,?hK nR,?nV,n4,y1.x Q2 uN ?lD ?c7,lx.x Q2 wJ ?lD ?c7⟩
 refine Ii fun H4 EG=>?_;intro sq;obtain⟨R,O3,O4,fs4,hf4,Q2,wB,kp4,wJ,nR,n3,n4,lx4,ly4⟩:=EG;have l4:fs4.length<=4:=by rw[hf4];exact qa6 ?g8 (qi7 l3)
 have oX:?GP:=wB.same s03 fp;refine⟨?aQ,fun nm hnm=>?_⟩;have sn:?h H4 (?HO):=?B hnm;have ZM:upd H4 nm ?hM nm=?wK:=Ab;have fY:=sn _ _ Q2;generalize ?HO=H5 at sn ZM fY;refine⟨_,rfl,p,Aj,dx,_,rfl,fY,?G,?eL,O9m,?_⟩
 have ex:∀a,?GU->H5 a≠none:=fun a ha=>by
  ext AA
  . rw[ZM];ext lT
  . obtain⟨_,z,_⟩:=ly4.rw;exact ?H6
  . obtain⟨_,z,_⟩:=ly4.bk;exact ?H6
 have z1:?TP H5 (fun a=>?GU):=lx4.more sn (fun a ha=>ha.elim (fun e=>?s (e▸hnm)) ?m) ex;have z2:LX H5 Ag R O3 O4 ?j w w ?dO ?s8:=ly4.more sn (fun a ha=>?s (ha▸hnm)) fun a ha=>ex a (?yN);have EM:?bL p H5 (?R5 p):=?gN;have s06:?h H0 (?R5 p):=EM.same (?EJ sn) fp;have g2:∀a,?H9->?rJ:=?R7 oB.free;have g3:∀a,?ED->?rJ:=?AY;have npn:p≠nm:=Ao Q2 hnm;have LR:L≠R:=fun z=>by obtain⟨_,_,q,_⟩:=lx3.ob;rw[z,nR]at q;cases q
 refine k L R nm _ ⟨⟨?iR,dx,_,Ab,?_,?_,?_,?_,?_,?h8,?_,fun M' e=>by cases e;exact ?H (fun a o e=>by rw[Z3 (Ao e (?EV))];exact s06 _ _ e) hv⟩,⟨O1,O2,O3,O4,z1.x fY uN EM ?c7,z2.x fY wJ EM ?c7,g2 _ n1,g2 _ n2,g3 _ n3,g3 _ n4⟩,by rw[Ai ?M6];exact ZM,s06,⟨fp,g2 _ nL,g3 _ nR,?EV⟩,?JO,⟨hn,hw⟩⟩
 . rw[hf4,hf3,hf2];ext aF
 . rw[hf4,hf3,hf2];ext aF
 . rw[hf4,hf3];ext aF
 . rw[hf4];ext aF
 . ext aF
 . rw[hf4,hf3,hf2]
   iterate 5 ext NC
   rfl
 . exact qa6 ?g8 O9m
noncomputable abbrev Si:Stmt:=top 71
theorem Er:?v [?a0,?vI,?l3,"parts","order",?w4,"gauge",?u7,?cF,?bJ] ?tG (Au Si):=Bj
theorem FH[?x](F:E4 K ?qE ?qE Si f fd)[?w](qV:Has P w K mg ?d ?oO ?mI 2 (jZ K))(IT:Has P w K mg ?d "times" [?bJ,?fT] 1 (EO K)):?OO ?tG (Wl K):=by
 refine ?P4 Er;obtain⟨a,b,xs,us,ls,rfl,hL,E3,hb,hB,hok,kq⟩:=h;obtain⟨_,xu,z,hq,r⟩:=id hL
 refine⟨_,(Ae (cF (N':=[?m0]) (cap:=?i1) (i:=2) ?eV ?g (by ext A1) ?g ?X ?j7 (?OK (?T3 0 yU)) ?a7 (fun _ _ _ _=>K4))
  (Ae (B8 qb5 rfl (?P1 Ce ?l) (?QE 3) (Ah (B8 qb5 rfl (?P1 Ce ?q) (Eh (K:=K) (n:=4) ?g (Bp (?PR ?eV) (Bp (?QE 5) (Bp (?QE 6) (Bp (?QE 7) Eg))))) (Ah (B7 (?OS Fg ?E) (Ah (Ob (B8 qb5 rfl (P4 ?aA) (?V7 (?QE 8) (?QE 9)) (Ah (K0 (?T5 qV (?OL (?VC ?o ?c4) (An IT hr (Aa ?cU ?j9)))) (K3 ?o ?c4 Fy)))))) Bl)))))
  ?l4)),?_⟩
 ext F
 cases z;have xul:xu.length=xs.length:=?mO
 refine ?OJ (fun σ' H'=>Ju fun ?b8 ?hY=>D6 (σ'=[?n,?bF,?C,none,none,none,none,none,none,none]) ?bG ?j5 ?IY (Fk H H' ws (?eB ?fC [])))
 . ext sL
   let Bl9:?a4:=fun i ws τ G=>B4 ?jZ (G D=?fR) (Fk H G ws (?eB i [])) ?i3
   refine Cw (K:=K) (a:=a) (xs:=xu) Bl9
    (?S6 ⟨rfl,fun i v e=>?kW⟩) (fun i ws τ G _ hz=>by ext t6;exact g.seq hq) ?_ ?_
   . rintro i x ws τ G hx C0;ext lU;intro g D7 dd o Ei;have hi:i<xu.length:=?h5;have wl:ws.length=i:=by have:=dd.1;rwa [qk7]at this
     refine ?iO;have g1:?h G (?HM):=?mJ;refine⟨?oN,?aS,?EH hD,Ab,?_,_,rfl⟩;rw[qv0];refine Fk.keep (H:=?HM) ((?qT g1).snoc (?nE hE) Ab) fun c kvs _ e=>?_;ext j2
     . exact e
     . rw[z,?oN]at e;cases e
   . rintro ws τ G ⟨g,D7,dd,_⟩;rw[xul]at dd;exact ?OM ⟨D,ws,rfl,g,hD,D7,dd⟩
 refine VW fun D ws H1 s1 nD hD dd=>?_;intro sq;refine ?OJ (fun σ' H'=>xQ fun ?hY ?BT=>B4 (σ'=?G0) ?bG ?IY (Fk H H' ws ?o9))
 . refine⟨_,rfl,b,rfl,(?PE (?oB)),?_⟩
   refine ?dI (K:=K) (a:=b) (xs:=us) (fun i σ G=>xQ fun ?hY ?BT=>D6 (σ=?G0) ?jZ (G D=?fR) (Fk H G ws (?rZ)) (Gx ?fC (?rZ)))
    ⟨ws,_,_,_,_,_,_,_,rfl,s1,hD,dd,Gx.first _⟩ (fun i σ G _ hz=>by obtain⟨_,_,_,_,_,_,_,_,_,g,_⟩:=hz;exact ?OQ g hb) ?_ ?_
   . ext t2;revert σ;ext NK;ext gS;have h0:=hB.1;ext NJ
     ext O1;have pok:=hok ps (qb0 hps);have pl:=rP.len
     have etk:Cc ?fC (ls.take ?aW)=Kc (?rZ) ps:=by
      unfold Cc;rw[qe7,hps,qs1];rfl
     rw[etk];generalize ?rZ=lf at dd Zr;refine(?UF pa (?VU ?EN))
     refine ?dI (K:=K) (a:=pa) (xs:=pu) (fun j σ G=>XQ fun ?hY (o2 o3 o4 o5 o6 o7:?bW)=>D6 (σ=[?n,?bF,?C,rS pa,o2,o3,o4,o5,o6,o7]) ?jZ (G D=?fR) (Fk H G ws (?n5)) (Gx ?fC (?n5)))
      ?GT (fun i σ G _ hz=>by obtain⟨_,_,_,_,_,_,_,_,g,_⟩:=hz;exact ?EN) ?_ ?_
     . rintro j v σ G hv C0;revert σ;ext NQ;obtain⟨p,hp,pv⟩:=rP.get hv;obtain⟨t,c1,c2,c3,rfl,et,e1,e2,e3,nec⟩:=?y8 g;have pk:=pok p (qb0 hp)
       have ejk:Kc lf (?jU (j+1))=Qf (?n5) p:=by
        unfold Kc;rw[qe7,hp,qs1];rfl
       rw[ejk];generalize ?n5=lg at dd Zr
       have e20:∃kvs,H c2=?c (.dK kvs):=by
        obtain⟨t',_,c2',_,q1,q2,_,q4,_⟩:=pv;cases q1;have:=g _ _ q2;rw[et]at this;ext sZ;ext sZ;injection this with _ this;injection this with _ this;ext sZ;ext sZ;exact⟨_,by rw[this];exact q4⟩
       ext MY;ext bA;ext aT
       . have h1:?m6:=?S
         have eP:Qf lg p=p.2.2.1.foldl (lift1 ?jQ) lg:=?w5;rw[eP];have nDc:c2≠D:=fun z=>by rw[z,D7]at e2;cases e2
         refine ?s ⟨c2,?pF,e2,?d2⟩;refine(?PA c2 ?pF)
         refine V4 (d:=c2) (o:=o) (kvs:=?pF) (fun m σ G2=>Nv fun ?hY ?xN=>Hq (σ=[?n,?bF,?C,rS pa,?tO,rS c1,rS c2,rS c3,o6,o7]) (G2 c2=?c (?Q1 ?pF)) (G2 D=?fR) (Fk H G2 ws (?q5)) (Gx ?fC (?q5)) ((∀c q,c≠c2->?gP->?nP->G2 c=?dV)))
          ⟨ws,_,_,rfl,Ab,by rw[Ai nDc.symm];exact D7,?_,Zr,fun c q n1 _ e=>?DI⟩ (?QA _) ?_ ?_
         . refine ?G6;ext j2
           . exact e
           . obtain⟨_,q⟩:=e20;rw[z,q]at e0;cases e0
         . rintro m kk x σ G2 pp hx C0 hpp;ext NL;ext f9;obtain⟨x0,x1⟩:=pk.gk q ?g0
           have emk:?ST (m+1)=lift1 ?jQ (?q5) q:=by
            rw[qe7,hq,qs1];rfl
           rw[emk];generalize ?q5=lh at dd Zr;have wl:ws.length=xs.length:=dd.1.trans Zr.1;have yF:?h G2 (upd G2 pp (?A [?eX,?bX])):=?B hpp;refine(?PH pp);obtain⟨v,hv⟩:∃v,ws[?gQ]?=?b7:=?rX
           obtain⟨c,rfl,nc,hc⟩:=dd.2 _ v hv
           have hat:DZ ws q.1=?QP c:=by
            have:=Bm hv
            ext NW
           have nc3:c3≠D:=fun z=>by rw[z,D7]at e3;cases e3
           have e33:=yF _ _ (hk _ _ nec.symm nc3 e3);have lc:=Zr.at ?gQ;refine⟨_,rfl,_,rfl,D,ws,_,_,rfl,rfl,?OQ yF fZ,hat,_,rfl,_,rfl,q.2,c3,?jQ,rfl,e33,qa6 pk.fl.len ?b0,pk.mul q ?g0,fun T G4 nT s4 hT=>?_⟩;refine⟨c,T,_,_,rfl,?RX s4 (yF _ _ hc),hT,qa6 lc.len ?b0,qa6 (pk.fl.times q.2).len ?b0,fun E G5 nE s5 hE=>?_⟩;have s15:=(yF.trans s4).trans s5;refine⟨_,rfl,_,rfl,D,ws,_,_,rfl,rfl,?L9,by rw[wl];have:=Kh (l:=xs.length) (i:=?gQ) O9m;ext NW,?_⟩;refine⟨_,_,_,rfl,?_,Ab,?_,Zr.lift1 pk.fl q,fun d r n1 n2 e=>?_⟩
           . rw[Ai nDc];exact s15 _ _ hc2
           . refine Fk.keep (H:=G5) ((?qT s15).set ?_ hE ?gQ) fun d kvs _ e=>?_
             . cases e:H E with
               | none=>rfl
               | some r =>
                 have:=(yF.trans s4) _ _ (hk E r (?SZ hc2).symm (?SZ fZ).symm (g _ _ e));rw[nE]at this;cases this
             . ext j2
               . exact e
               . rw[z,?L9]at e;cases e
           . rw[?iT];exact s15 _ _ (hk d r n1 n2 e)
         . rintro σ G2 C0;ext NL;rw[Ka,qd0]at dd Zr;refine⟨hc2,ws,_,_,_,_,_,_,rfl,?LN,by rw[Ai nDc.symm];exact fZ,?G6,Zr⟩
           . by_cases z:c=c2
             . subst z;have:=g _ _ e;rw[e2]at this;cases this;exact Ab
             . rw[?c1];exact hk c r z (Ao e nD) (g _ _ e)
           . ext j2
             . exact e
             . rw[z,hc2]at e;cases e
       . have h1:¬?m6:=?S
         have eP:Qf lg p=lg:=?tF;rw[eP];exact ?GT
     . ext aG;ext NQ;rw[pl,qd0]at dd Zr;exact⟨ws,_,_,_,_,_,_,_,rfl,g,D7,dd,Zr⟩
   . ext aG;ext NK;rw[hB.1,qd0]at dd;exact ?OM ⟨ws,_,_,_,_,_,_,_,rfl,g,D7,dd⟩
 refine Ah2 fun ws o1 o2 o3 o4 o5 o6 o7 H2 s2 Mw dd=>?_;intro sq;exact⟨_,rfl,kq D ws H2 nD s2 Mw dd⟩
noncomputable abbrev Mb:Stmt:=top 81
theorem Hu:?v [?dT,?jH,?kG,"_law_last",?ET] ?x9 (Au Mb):=Bj
theorem Zd[?x](F:E4 K ?nQ ?nQ Mb f fd)[?w][?NT][?MV]:?OO ?x9 (Tm K):=by
 refine ?P4 Hu;obtain⟨a,D,xs,k,us,ps,O,rfl,hL,hD,rP,hok,kq⟩:=h;ext cR
 refine⟨_,(Ae (?WD Ez (Ek (?TF DX ?o)))
  (Ae (?P2 Hu.nd Am)
  (Ae (B8 qb5 rfl (?P1 Ce ?o) (?PR Hu.nd) (Ae (?WD ?b2 (O8 (?TW dX ?E) (O8 (Be Ij (?OR ?fO) Am ?t) (P3 (?RK (?VB ?cB))))))
  (Ae (?VG (?OS P5 ?cB) (O8 (?OS Fg ?cB) (P3 (?TT (?OS Fg ?q) ?cB))))
  (Ae (B7 (?TT (?OS fG ?q) (Br Iy ?cB ?q)) ?a9 Bl)
  (Ae (?P2 Hu.nd ?cB)
  (Ae (?WD ?b2 (?WQ ?l (?VE Fi (?VX ?l ?cB))))
  (Ah (?WD ?b2 (?WQ (Br Dl ?l Am) (?b2 (Ss (?OS Fg ?cB) (N8 (Be ?qJ ?cB K4 ?t)))))))))))))
  ?a9))),?_⟩
 ext F
 refine⟨_,rfl,D,us,rfl,hD,_,rfl,?_⟩;ext dB;refine ?OT [?n,?a1,?C,none,none];ext bQ;refine ?OT [?n,?a1,?C,iS 1,none];ext bQ;refine ?OJ (fun σ' H'=>Ju fun o3 o4=>σ'=[?n,?a1,?C,o3,o4]/\?hI)
 . refine(?UF D ?DL)
   refine ?dI (K:=K) (a:=D) (xs:=us) (fun i σ G=>Em fun o4=>σ=[?n,?a1,?C,?T4 (?kY),o4]/\?z5)
    ⟨?j,rfl,?fW H⟩ (fun i σ G _ hz=>by obtain⟨_,_,g⟩:=hz;exact ?OQ g hD) ?_ ?_
   . ext t2;revert σ;ext sX;ext gS;obtain⟨p,hp⟩:∃p,?T2 ps p:=?KR
     obtain⟨t,c1,c2,c3,rfl,_,et,e1,e2,e3⟩:=(rP.same g).2 i v p hv hp;have hpm:=qb0 hp;have ho:=hok.one p hpm;obtain⟨l0,l1,l2⟩:=qK hok.ord (fun q hq=>(hok.one q hq).nn) hp;have els:K6 ps ?aW=p.1:=Zu hp;rw[els];have hn1:=ho.n1;have hnn:=ho.nn;ext zN
     . refine⟨_,rfl,t,_,rfl,et,_,rfl,?_⟩;ext dB;refine⟨_,rfl,t,_,rfl,?s (?cP),rfl,_,rfl,?_⟩;ext e2;refine⟨_,rfl,t,_,_,_,rfl,rfl,?cP,rfl,?pS,?pS,rfl,rfl,_,rfl,?_⟩;ext zT;ext cQ
     ext e1;ext zN
     . refine(?QG ?cP);ext e0;ext zP;refine ?QK (by simpa using hn1);ext bA;ext aT
       . have h1:?kY=0:=?S
         ext zP;refine ?QK (by rw[l1 h1];simp);ext cQ
       . ext cQ
     ext e1;ext zN
     . ext b9;ext aT
       . have h1:0<?kY:=?S
         refine⟨_,rfl,t,_,_,_,rfl,rfl,?cP,rfl,_,rfl,_,_,rfl,rfl,h1,rfl,_,rfl,?_⟩;refine ?QK (by show ¬(! ?UT (p.1%?kY))=true;rw[l2 h1];simp);ext cQ
       . ext cQ
     ext e1;refine ?OJ (?VM [?n,?a1,?C,?tO,rS t])
     . exact⟨_,rfl,t,_,_,_,rfl,rfl,?cP,rfl,?y1⟩
     ext e1;have iU:=?CN;refine ?OJ (?TH [?n,?a1,?C,?tO,rS t] ?kN)
     . refine⟨_,rfl,_,rfl,_,rfl,t,_,_,_,rfl,rfl,?cP,rfl,a,c1,xs,k,_,rfl,iU,e1,ho.lp,?K5⟩;ext dB;have et':=?u2;refine⟨_,rfl,_,rfl,_,rfl,t,_,_,_,rfl,rfl,.of et',rfl,a,c2,xs,k,_,rfl,?FF,g1 _ _ e2,ho.gg,?zF⟩;ext dB;exact ?OM (?UU ?kO)
     ext sS;have xB:=?u2;refine⟨_,rfl,_,rfl,_,_,rfl,rfl,_,rfl,t,_,_,_,rfl,rfl,?iG,rfl,a,c3,xs,k+1,_,rfl,?FF,?EX,ho.fl,?zF⟩;ext dB;have et2:=g2 _ _ xB;have EF:=?kO;refine⟨_,rfl,t,_,_,_,rfl,rfl,.of et2,rfl,rfl,_,rfl,?_⟩;ext aT
     . have h1:p.1=0:=?S
       refine⟨_,rfl,t,_,_,_,rfl,rfl,.of et2,rfl,?iO⟩;have g3:=?RO [] hE;have e33:=g3 _ _ (EF _ _ e3);rw[ho.no h1]at e33;refine⟨c3,E,[],[],rfl,rfl,?m e33,?m Ab,_,rfl,?_⟩;ext dB;exact⟨_,rfl,?QV ?pJ g3⟩
     . exact(?RE _ ?pJ)
   . ext aG;ext sX;exact ?OM ⟨_,_,rfl,g⟩
 refine OJ fun o3 o4 G g=>?_;intro sq;exact kq G g
noncomputable abbrev Iv:Stmt:=top 82
theorem Bz:?v [?dT,?f6,?kG,?yI,?jH,"_law_edge",?eM,?ET,?n2,"_law_weight"] ?xV (Au Iv):=Bj
theorem T7[?x](F:E4 K ?nU ?nU Iv f fd)[?w][?zW](Kk:Has P w K mg ?d ?s5 ?xI 2 (To K))(Uh:Has P w K mg ?d ?rY ?yF 2 (ES K))(S6:Has P w K mg ?d ?oP ?uN 1 (AS K)):?OO ?xV (aT K):=by
 refine ?P4 Bz;obtain⟨a,hd,la,p,xs,k,hl,lf,wu,O,O2,rfl,hL,hs,E3,h4,wY,hH,hla,hlf,pc,kq⟩:=h;ext cR;have hp0:=pc.p0;have hp1:=pc.p1;have hwl:wu.length=xs.length:=hlf.1.trans pc.lfl
 refine⟨_,(Ae (?PM ?dA (?T5 Ib (?VB (Ba ?O ?i ?l ?z))))
  (Ae (?WE ?dA (?T5 Kk (?OL ?i (?VY ?l))))
  (Ae (?WN ?dA (?T5 Kk (?OL ?i (?VC ?q ?l))))
  (Ae (B8 qb5 rfl (?P1 Ce (?VC ?o ?E)) (?T3 7 ?dA) (?VJ (?W6 ?e9 ?l)))
  (Ae (Ob (B8 qb5 rfl (Q0 ?aL) (?T3 8 ?dA) (Ah (?WN ?dA (?T5 Uh (Aa ?aA (?OL (Lq ?aY ?aL ?c4 ?z) (?VC ?q ?c4))))))))
  (Ae (B7 (?OS fG ?E) (Ah (B8 qb5 rfl (?P1 Ce (?VC ?o (?WG ?E))) (?T3 7 ?dA) (Ae (Av (i:=9) ?dA (?T5 S6 (Aa ?e9 ?dX)))
  (Ae (B7 (?TT (?OS Fg ?e9) ?cU) (?V8 Y5) Bl)
  (Ah (B7 (?OS fG ?e9) (Ae (?T9 (?OS Ij (Br Iy ?cU ?e9)) (Bb Y5))
  (?VJ (Br Jn ?cU ?e9))) Bl)))))) Bl)
  (?V8 ?aA))))))),?_⟩
 ext F
 refine ?OJ (?VO [?n,?dZ,?aN,?N,?cH,none,none,none,none,none])
 . obtain⟨ON,v2,IS,QU,tv2⟩:=?hT hL hp0 hp1;refine⟨_,rfl,_,rfl,a,ON,_,_,rfl,rfl,IS,QU,v2,?DN,rfl,?s tv2,?_⟩;rw[?SC ?DN ?LU,pc.lv];ext cQ
 ext bQ;refine ?OJ (fun σ' H'=>Em fun(E:Addr)=>B4 (σ'=(?TZ none none)) (?U2 E) ?bG (H' E=?c (.dK (?jN))))
 . refine⟨_,rfl,?PU p⟩;have sZ:?h H (?UV H p):=?K6
   refine⟨a,Z,xs,[(p,1)],rfl,?H sZ hL,Ab,(by show 1<=100;decide),h4,?M5,fun E H1 nE s1 hE=>?OM ⟨E,rfl,sZ.free nE,sZ.trans s1,hE⟩⟩;rw[?JU];exact⟨hp0,hp1⟩
 refine O0 fun E H1 nE s1 hE1=>?_;intro sq;obtain⟨v0,hv0⟩:∃v,wu[p.toNat]?=?b7:=?rX
 obtain⟨c0,rfl,_,hc0⟩:=hlf.2 _ v0 hv0
 have Bf0:DZ wu p=?QP c0:=by
  have:=?w1
  rwa [show((p.toNat:Nat):Int)=p by omega]at this
 refine ?OJ (fun σ' H'=>Em fun ?b8=>D6 (σ'=(?TZ ?C none)) ?j5 ?fU (?UE H1) (?T8 (?VT xs)))
 . refine⟨_,rfl,_,rfl,_,rfl,la,wu,_,_,rfl,rfl,?OQ s1 hla,Bf0,a,c0,xs,?fQ,rfl,?eC,?V0 hc0,by have:=(?yD p).len;omega,h4,?M5,fun D H2 nD s2 hD=>?OM ⟨D,rfl,?gK nD,nD,s2,hD⟩⟩;exact(pc.lfr.part q hq).1
 refine VX fun D0 H2 nD nD1 s2 Mw=>?_;intro sq;have oB:=?eD;have hE2:=?Q4 hE1;have hm0:=VU hs E3 (?fQ);have g0:=OH xs (?fQ);generalize ?VT xs=m0 at Mw hm0 g0;refine ?OJ (fun σ' H'=>Nv fun ?b8 ?i2 ?xU=>Hq (σ'=?CQ) ?fU ?qD (?T8 m) ?iU (∀q,?fD=Ay m0 q+((hl.getD k []).map ?F1).sum))
 . obtain⟨us,Dk,uk,ps,hu,hat,hDk,rP,hps,eps⟩:=(?qY oB).at (j:=k) (by have:=pc.k4;omega)
   rw[eps]at key
   have hok:∀b∈ps,Du ?k7/\Du ?kS/\∀t∈?k7,?KL (?rW) t.2:=by
    have:=pc.r
    rwa [eps]at this
   refine⟨_,rfl,_,rfl,hd,us,_,_,rfl,rfl,?y9,?zG,Dk,rfl,?JK,?_⟩
   let Bl8:?aO:=fun i σ G=>Nv fun ?b8 ?i2 ?xU=>Hq (σ=?CQ) ?fU (?h H2 G) (?VN m) ?iU (∀q,?fD=Ay m0 q+(?FX ?F1).sum)
   refine ?dI (K:=K) (a:=Dk) (xs:=uk) Bl8
    ⟨D0,m0,?j,rfl,nD1,?fW H2,Mw,hm0,?yY⟩ (fun i σ G _ hz=>by obtain⟨_,_,_,_,_,g,_⟩:=hz;exact ?OQ g hDk) ?_ ?_
   . ext t2
     ext Q
     revert σ;refine kK ?_;intro D m o7 QA g D7 hm gm Ei;ext gS;ext MW
     ext N0;obtain⟨o1,o2,A70⟩:=?FI;have rg:Rd G c2 (?OX ?kS):=?m e2;refine⟨_,rfl,_,rfl,t,_,_,_,rfl,rfl,?cP,rfl,c2,rfl,?m (?VU rg),_,rfl,_,Q6 rg,_,rfl,t,_,_,_,rfl,rfl,?cP,rfl,?_⟩;refine⟨D,c1,?rW,m,?k7,congrArg (fun x=>[?b6 D,x,?b6 c1]) (?rR),D7,e1,?iD,o1.n,?vK,?G3,A70,?EB⟩;refine⟨D',_,_,rfl,?hK (?nE wM),?eY,zU,?I5,?rF⟩;rw[?AU,gm q,Yd _ hb];show _+?rW*Ay ?k7 q=_+(_+?rW*Ay ?k7 q)
     rw[qk9]
   . ext aG;refine kK ?_;intro D m o7 QA g D7 hm gm Ei;rw[rP.1,qd0]at gm;exact ?OM ⟨D,m,o7,rfl,QA,g,D7,hm,gm⟩
 refine OI fun D3 m3 o7 H3 nD3 s3 FZ hm3 g3=>?_;intro sq;have hE3:=?Q8 hE2;refine ?OJ (fun σ' H'=>Nv fun ?b8 ?i2 ?uR=>Hq (σ'=?G2) ?fU (?UE H3) (?T8 m) ?iU (?U3 ?iE))
 . refine ?s ⟨E,?jN,hE3,?d2⟩;refine(?PA E ?jN);have Bd7:=DL hs E3 p;have nDE:D3≠E:=fun z=>by rw[z,hE1]at nD3;cases nD3
   let Bl7:?aO:=fun i σ G=>Nv fun ?b8 ?i2 ?uR=>Lk (σ=?G2) ?fU (G E=?c (?Q1 ?jN)) ((∀c r,c≠E->H3 c=?c r->G c=?c r)) (?VN m) ?iU (?U3 ((?zI).take i))
   refine Nj (d:=E) (o:=o) (kvs:=?jN) Bl7
    ⟨D3,m3,?j,rfl,nD3,Ab,?oC,by rw[Ai nDE];exact FZ,hm3,?yY⟩ (fun i σ G _ hz=>by obtain⟨_,_,_,_,_,e,_⟩:=hz;exact e) ?_ ?_
   . ext lR
     ext Q
     revert σ;ext O5;obtain⟨b,hb,rfl,rfl⟩:=Le hx;obtain⟨bn,b0,b1⟩:=gE hs E3 h4 (qb0 hb);obtain⟨v1,hv1⟩:∃v,wu[?zH]?=?b7:=?rX
     obtain⟨c1,rfl,_,hc1⟩:=hlf.2 _ v1 hv1
     have ZP:DZ wu b.1=?QP c1:=by
      have:=Bm hv1
      rwa [show((?zH:Nat):Int)=b.1 by omega]at this
     have hat:?jT ?iE b.1=?c b.2:=Et Bd7.n (qb0 hb);have qS:G la=?TA wu:=hk _ _ (fun z=>by rw[←z,hla]at nE;cases nE) (?Q8 (oB _ _ hla));have Be2:G c1=?TE (?H8):=hk _ _ (fun z=>by rw[z,nE]at hc1;cases hc1) (?Q8 (oB _ _ hc1));have o1:=?yD b.1;refine⟨_,rfl,_,rfl,_,rfl,E,?e b.2,rfl,?PS SR,_,rfl,_,rfl,la,wu,_,_,rfl,rfl,.of qS,ZP,?_⟩;refine⟨D,c1,b.2,m,?H8,rfl,D7,Be2,?iD,o1.n,?vK,?G3,fun t _=>Zn O9m O9m,?EB⟩
     have A84:H1 D'=none:=by
      cases z:H1 D' with
      | none=>rfl
      | some r =>
        by_cases y:D'=E
        . rw[y,SR]at wM;cases wM
        . rw[hk _ _ y (s3 _ _ (?Q4 z))]at wM;cases wM
     refine⟨D',_,_,rfl,A84,?CM,fun c r n e=>g1 _ _ (hk c r n e),zU,?I5,?rF⟩;rw[?AU,gm q,SY _ hb,qk9]
   . ext aG;ext O5;rw[Ka,qd0]at gm;have A81:D≠E:=fun z=>by rw[z,hE1]at QA;cases QA
     refine⟨SR,?OM ⟨D,m,o8,rfl,QA,?LN,by rw[Ai A81];exact D7,hm,gm⟩⟩;by_cases z:c=E
     . subst z;rw[hE3]at e;cases e;exact Ab
     . rw[?c1];exact hk c r z e
 refine OI fun D4 m4 o8 H4 nD4 s4 eF hm4 g4=>?_;intro sq;have hE4:=s4 _ _ hE3;have oX:=(?y7 s3).trans s4;refine ?OJ (fun σ' H'=>Xr fun ?b8 ?i2 ?M4=>Hq (σ'=(?UZ o9)) ?fU (?UE H4) (?T8 m) ?iU (∀q,?fD=?v7+vL k (fun j=>(?B5 ?mG).sum)))
 . ext b9;refine ?dP (fun hk0=>?_) (fun hk0=>?_);rotate_left
   . have hk0:k=0:=by
      have:¬?d3<?aX:=?MD
      omega
     subst hk0;exact ?OM ?B3
   have hk0:?d3<?aX:=?MD
   obtain⟨j,rfl⟩:∃j,k=j+1:=⟨k-1,O9m⟩
   obtain⟨us,Dk,uk,ps,hu,hat,hDk,rP,hps,eps⟩:=(?qY oX).at (j:=j) (by have:=pc.k4;omega)
   have hok:=pc.f j rfl;rw[eps]at hok;have key:=fun σ' H' D m o7 o8 o9 h1 h2 h3 h4 h5 (h6:∀q,?fD=?v7+(ps.map ?mG).sum)=>key σ' H' ⟨D,m,o7,o8,o9,h1,h2,h3,h4,h5,fun q=>by show _=_+(?B5 _).sum;rw[eps];exact h6 q⟩
   have ZP:DZ us (?lH-1)=?QP Dk:=by
    rw[show ?lH-1=?xL by omega];exact ?zG
   refine⟨_,rfl,_,rfl,_,_,rfl,rfl,hd,us,_,_,rfl,rfl,?y9,ZP,Dk,rfl,?JK,?_⟩
   let Bl6:?aO:=fun i σ G=>Xr fun ?b8 ?i2 ?M4=>Hq (σ=[?n,?dZ,?aN,?N,?T4 ?lH,?e5,?C,o7,o8,o9]) ?fU (?h H4 G) (?VN m) ?iU (∀q,?fD=?v7+?LK)
   refine ?dI (K:=K) (a:=Dk) (xs:=uk) Bl6
    ?B3 (fun i σ G _ hz=>by obtain⟨_,_,_,_,_,_,_,g,_⟩:=hz;exact ?OQ g hDk) ?_ ?_
   . ext t2
     ext Q
     revert σ;ext O2;ext gS;ext MW
     ext N0;obtain⟨⟨ob1,ob2⟩,bnn,bbig,b0,bp⟩:=?FI;have eq1:∀q,((?jU ?aW).map ?mG).sum=?LK+eG ?iE q b:=fun q=>Yd _ hb;refine ?OJ (fun σ' H'=>?VI t/\?kN)
     . refine⟨_,rfl,t,_,_,_,rfl,rfl,?cP,rfl,_,rfl,c2,E,?kS,?zI,rfl,e2,g _ _ hE4,?wI,fun G1 g1=>?OM (?UU g1)⟩;obtain⟨bn,_,_⟩:=gE hs E3 h4 ht;exact yZ O9m O9m
     ext sS;have xB:=?u2;refine ?OJ (fun σ' H'=>?VI t/\G1=H')
     . refine(?PJ t ?iG);ext aT
       . have h1:b.1=0:=?S
         ext bA;refine ?QK (by rw[b0 h1];simp);ext cQ
       . ext cQ
     ext e1;refine(?QG ?iG);ext aT
     . have h1:0<b.1:=?S
       obtain⟨bm,Bj2⟩:=bp h1;refine⟨_,rfl,_,rfl,t,_,_,_,rfl,rfl,?iG,rfl,_,_,rfl,rfl,h1,rfl,_,rfl,?_⟩;refine ?QK (by show ¬(! ?UT (?k6%b.1))=true;rw[bm];simp);refine⟨_,rfl,_,rfl,_,rfl,t,_,_,_,rfl,rfl,?iG,rfl,_,_,rfl,rfl,U1.of O9m bbig,_,rfl,t,_,_,_,rfl,rfl,?iG,rfl,?_⟩;have efd:(?k6).fdiv b.1=?GV:=?o1;refine⟨D,c3,?GV,m,b.2.2.2,by rw[efd];rfl,?oN,?EX,?iD,ob2.n,?vK,by have:=ob2.len;omega,Bj2,fun D' G2 wM g2 zU=>?_⟩;refine⟨D',_,_,_,_,rfl,?hK (?pI (s4.free (?nE (g1.free wM)))),?QV ?eY g2,zU,hm.lp ob2 _,?rF⟩;rw[IM ?iD ob2.n,gm q,eq1 q];unfold eG;rw[?w5,qk9]
     . have h1:¬0<b.1:=?S
       refine⟨D,m,_,_,_,rfl,QA,?eY,?oN,hm,?rF⟩;rw[gm q,eq1 q];unfold eG;rw[?tF,qf1]
   . ext aG;ext O2;rw[rP.1,qd0]at gm;exact key _ _ D m o7 o8 o9 rfl QA g D7 hm gm
 refine Ah4 fun D5 m5 o7' o8' o9' H5 nD5 s5 hD5 hm5 g5=>?_;intro sq;exact⟨_,rfl,kq D5 H5 m5 (?gK nD5) ?LY hD5 hm5 fun q=>by rw[g5,g4,g3,g0];exact pc.sum q⟩
noncomputable abbrev N4:Stmt:=top 87
theorem Dw:?v [?CO,?MK,?EA,?eI,?jM,?x6,?BD] ?w2 (Au N4):=Bj
theorem y7[?x](F:E4 K ?p4 ?p4 N4 f fd)[?w](Mn:Has P w K mg ?d ?p0 ?wP 2 (O6 K))(S5:Has P w K mg ?d ?rT ?vH 1 (Tq K))[?N3]:?OO ?w2 (Rp K):=by
 refine ?P4 Dw;obtain⟨a,ns,kind,most,rfl,hS,hl,hm0,hm1,k⟩:=h;ext cR
 refine⟨_,(Ae (?P2 ?g1 Am)
  (Ae (?T9 (?OS Fg (Br Iy ?i Am)) (?P2 ?g1 (M4 Im Am)))
  (Ae (?T9 (?OS Fg (Br Iy ?i Am)) (?P2 ?g1 (?VQ Am)))
  (Ae (?PM ?g1 ?d0)
  (Ae (B8 qb5 rfl (?P1 Ce ?l) (?T3 5 ?g1) (Ae (?WN ?g1 (?T5 Mn (Aa ?E (Aa (An S5 hr (Aa ?aL (?OL ?q (?VQ Am)))) ?f7))))
  (Ah (?T9 (Be kE (?OR ?i7) ?o ?t) (?PM ?g1 ?aA)))))
  (Ah (Bb (Cd (N':=[?g6,?eI,?jM]) (cap:=[none,?c 3,?c 4]) ?g ?X (?P1 Ce ?E) (?OK (?T3 0 YS)) ?a7 (?OK (Ct (?WH K7) ?g ?uA Jt (?VB (Cd (N':=[?n2,?jM]) (cap:=?GD) ?g ?X (Ce (K:=K) (?T5 Hk ?c3)) (fun _ _ _ _=>(?T3 0 yS)) ?a7 (fun _ _ _ _=>(Hz (K:=K) qe4 PySem.F.slot_list_index PySem.F.type_list_index (MO (K:=K) Nu) ?l ?aI)))))))))))))),?_⟩
 ext F
 refine ?OT [?m9,?n,?nL,iS 0,none,none,none];ext bQ;refine Ap (?PD ?n) ?_ fun Ao8=>?_;rotate_left
 . ext MR
   . exact⟨_,rfl,Ao8 _ _ ⟨-1,rfl,rfl,?K⟩⟩
   . exact Ao8 _ _ ⟨0,rfl,rfl,?K⟩
 refine VY fun Bi3 hf0=>?_;intro sq;refine Ap (?PD ?n) ?_ ?xR;rotate_left
 . ext MR
   . refine⟨_,rfl,_,_,rfl,rfl,?uV,_,_,rfl,rfl,(?PF 19),_,_,rfl,rfl,IQ _ _ ?JJ⟩;have:kind / 18%19<19:=?yA;omega
   . exact IQ _ _ ⟨Bi3,rfl,rfl,hf0⟩
 refine VY fun fam hf=>?_;intro sq;have l1:0<=kind / 3%6:=?M8;have l2:kind / 3%6<6:=?yA;refine⟨?aQ,fun W0 hW0=>?_⟩;have s0:?RB W0 ?hM:=?B hW0
 refine⟨_,rfl,a,rfl,⟨_,s0.seq hS⟩,?dI (K:=K) (a:=a) (xs:=?m1)
  (fun j σ H2=>Xr fun(W:Addr) (wu:?dU) (ws:Aq) (o5 o6:?bW)=>Lk (σ=[?m9,?n,?nL,?bE,rS W,o5,o6]) ?eG (?U2 W) (H2 W=?TA wu) (?bH K H2 wu (?hA)) (lH fam ws) ((ws.length:Int)<=most))
  ⟨W0,[],[],?j,?j,rfl,s0,hW0,Ab,rfl,lH.nil,by simpa using hm0⟩ (fun j σ H2 _ hz=>by obtain⟨_,_,_,_,_,_,s2,_⟩:=hz;exact ?mD hS) ?_ ?_⟩
 . rintro j x σ H2 hx C0
   ext Q
   ext N5;have hjn:?FL:=?jS
   have hxv:x=?e ns[j]:=by
    rw[qa9,qa0 hjn]at hx;simpa using hx.symm
   subst hxv;refine⟨_,rfl,_,rfl,_,rfl,_,rfl,_,_,rfl,rfl,?uV,_,_,rfl,rfl,(?PF 6),_,_,rfl,rfl,?_⟩;refine⟨_,_,_,rfl,O9m,O9m,O9m,fun v H3 w s3 tv hw=>?_⟩;ext iY;refine⟨W,wu,v,ws,w,fam,rfl,?Q8 ZQ,?aD s3 rW,tv,hw,O9m,fun M mu H4 hM s4 hM4 rM=>?_⟩;have OA:=?o2;have hMH:?LT:=(?hN).free hM;have mul:mu.length=(?MG).length:=?C3
   refine⟨_,rfl,M,_,rfl,?m (.of hM4),_,rfl,_,_,rfl,rfl,_,rfl,?_⟩;ext aT
   . have h2:(mu.length:Int)<=most:=?S
     exact⟨_,rfl,M,mu,?MG,_,_,rfl,?bN OA,hMH,hM4,rM,n0 hO hw,O9m⟩
   . exact⟨W,wu,ws,_,_,rfl,?bN OA,hW,OA _ _ ZQ,?aD OA rW,hO,hwl⟩
 . rintro σ H2 C0;ext N5;have wul:wu.length=ws.length:=by have:=rW.length;ext a5
   refine⟨_,rfl,W,rfl,(?PE ZQ),?aR⟩;have hDH:?mP:=?hK hD
   let Bl5:?a4:=fun i ys τ H1=>B4 (?h H2 H1) ?eS (?R2 ?GA ?vB) (?P6 [o,?bE,rS W])
   refine Cw (K:=K) (a:=W) (xs:=wu) Bl5
    ?iQ (fun i ys τ H1 _ hz=>by ext lV;exact ?OQ s1 ZQ) ?_ ?_
   . ext sK;intro s1 El r1 o Ei;have hi:i<wu.length:=?h5;have hil:i<ws.length:=O9m
     have hix:?T2 (?hA) (tI ws[i]):=by rw[qa9,qa0 hil];rfl
     obtain⟨x',hx',tx⟩:=rW.get hix;rw[hx]at hx';cases hx';obtain⟨hwi,hfi⟩:=hO.mem (qe0 hil);generalize hwe:ws[i]=w at tx hwi hfi;refine⟨_,rfl,_,rfl,x,w,fam,rfl,?rS s1 tx,hwi,fun p fu H3 hp s3 hp3 r3=>?_⟩;have ful:fu.length=?KY:=by have:=r3.length;ext a5
     have s13:=?v5;refine⟨p,rfl,(?PE hp3),fun D2 Mw=>?_⟩
     let Bl4:?a4:=fun m zs τ H4=>B4 (?h H3 H4) (H4 D2=?xX) (zs=((?f3).take m).map (fun f=>?Y ?IB)) (?P6 [o,rS W])
     refine Cw (K:=K) (a:=p) (xs:=fu) Bl4
      ⟨?B Mw,Ab,rfl,?j,rfl⟩ (fun m zs τ H4 _ hz=>by obtain⟨s4,_⟩:=hz;exact ?OQ s4 hp3) ?_ ?_
     . rintro m y zs τ H4 hy C0;ext lU;intro s4 eF hzs o Ei;have hm:?BX:=?z9;have hmf:m<?KY:=O9m
       have hmy:(?EF tI)[m]?=?c (tI ?oJ):=?C1
       obtain⟨y',hy',ty⟩:=r3.get hmy;rw[hy]at hy';cases hy';have hfm:?oJ∈ws:=hfi _ (qe0 _);have kD:=s13.trans s4;have rw4:Rep K H4 (?f W) (?p (?hA)):=⟨W,wu,rfl,?OQ kD ZQ,?aD kD rW⟩
       have hfl:=(Ko hwi)
       have hzl:zs.length<=4:=by
        rw[hzs,qa4,qc8];have:=hfl.2;have:=hfl.1;split at this<;>omega
       refine⟨_,rfl,?m ⟨rfl,_,?OQ kD ZQ⟩,_,rfl,?hA,y,tI ?oJ,dD ws ?oJ,rfl,rw4,?rS s4 ty,(by have:=Qo ws;omega),iX hfm,?_⟩;refine⟨eF,?aS,s4.turn Mw,Ab,?_,_,rfl⟩;rw[qe7,?vN,qb4,hzs];rfl
     . rintro zs τ H4 ⟨s4,eF,hzs,_⟩;rw[ful,qd0]at hzs;have kD:=s13.trans s4;refine⟨D2,_,rfl,?m ⟨.of eF,?EU⟩⟩;have s5:?h H4 (upd H4 T (?A zs)):=?B hT;have hD5:=(?lY (s4.trans s5)) _ _ El
       have t5:TI K (upd H4 T (?A zs)) (?f T) (?vZ):=by
        refine ?h3 (.of ?_);rw[qi9,Ab,hzs];rfl
       ext NB
       refine⟨hD5,?aS,(kD.trans s5).turn hD,Ab,?_,_,rfl⟩
       have e2:(ws.take ?aW).map (?vB)=?GA (?vB)++[?vZ]:=by
        rw[qe7,qa0 hil,hwe,qb4];rfl
       rw[e2];exact Oa hD5 (?aD (?lY (s4.trans s5)) r1) t5
   . rintro ys τ H1 ⟨s1,El,r1,_⟩;rw[wul,qd0]at r1;exact k D ys H1 (Nw ws fam) hDH (?bN s1) El r1 (v4 hO) (by unfold Nw;rw[qa4];exact hwl)
noncomputable abbrev IA:Stmt:=top 8
theorem KC:?v ?kI ?uT (Au IA):=Bj
theorem UJ[?x](F:E4 K ?oA ?oA IA f fd)[?w][?zY](Oq:Has P w K mg ?d ?G8 [?a0,?xF] 1 (Pl K))[?N1]:?QD ?uT JZ:=by
 refine ?P4 KC;obtain⟨a,th,d,xs,rfl,hL,hd,k⟩:=h;obtain⟨AM,AK,v9⟩:=T.x_FACE_COUNTS;ext cR
 refine⟨_,(Ae (?VG (?TW ?k0 ?l) (P3 (Be ?nT (?OR ?V) (Lp (v:=?f AM) ?g AK rfl) rfl)))
  (Ae (?P7 KC.nd (?T5 F9 ?V))
  (Ae (?WD Ez (Ek (Bf ?pG ?p5 Q8 (?VB (Cd (N':=["face",?a0,"level"]) (cap:=[none,?jJ,?n3]) ?g ?X (?P1 Ua ?l) (?OK (?T3 0 An5)) ?a7 (?OK (?T5 C9 (?W4 ?i (Aa (Br Ix ?o Am) Af)))))))))
  (?V8 (Am0 (Oe P5 ?o Am ?t) (Od (?T5 Oq ?c3))))))),?_⟩
 ext F
 refine⟨_,rfl,_,_,d,rfl,.inr (.inr (.inr (.inl rfl))),hd,_,rfl,?_⟩;cases d with
 | non=>ext iW
 | bl b=>ext iW
 | int i=>ext iW
 | str z=>ext iW
 | lst es=>ext iW
 | tup ds =>
   obtain⟨pa,us,rfl,hq,r⟩:=id hd;have ul:?DT:=r.length;refine ?QK (by simp[KN]);refine⟨_,rfl,pa,us,rfl,?s hq,?e (us.length:Int),Fe [0,2,3,4],rfl,?s ⟨_,_,rfl,v9 H,Iw.mpr rfl⟩,(by rw[V6];decide),_,rfl,?_⟩;rw[ul]
   have cnt:(! ?ER ?IE)=! ?r9:=by
    have:?ER (?IE)=?r9:=by
     simp only[Fe,qc5,qr0,ql8,List.any_nil,eqD,dU];rw[qm5];simp only[qq6,qw4,Bool.or_false];omega
    rw[this]
   by_cases hc:?r9=true;rotate_left
   . have hc':?r9=false:=by simpa using hc
     refine ?SI (by rw[?bI,cnt,hc'];rfl);have e2:?BB:=by rw[Q5];simp[hc']
     rw[e2]at k;ext iW
   refine ?QK (by rw[?bI,cnt,hc];simp);have hn4:ds.length<=4:=(vI hc).1;refine⟨_,rfl,_,ds,rfl,?s hd,?_⟩;refine(?R8 pa)
   let Bl3:?a4:=fun i ys τ H1=>B4 ?g2 ?eS (ys=((ds.take i).map fun e=>V.bl (?FT))) (?P6 [o,?n,?T4 (?gR)])
   refine Wb (K:=K) (a:=pa) (xs:=us) Bl3
    ?iQ (?PQ ?vA) ?_ ?_
   . ext sK;intro s1 El hys o Ei;have hi:i<us.length:=?h5;obtain⟨e,he,re⟩:=r.getV hx;refine⟨_,rfl,_,rfl,_,rfl,_,_,rfl,rfl,a,x,e,_,xs,rfl,?eC,?H s1 re,?_⟩;refine⟨El,?e6 (by rw[hys,qa4,qc8];omega),?vM,Ab,?_,_,rfl⟩;rw[qe7,he,qb4,hys];rfl
   . rintro ys τ H1 ⟨s1,El,hys,_⟩;rw[ul,qd0]at hys;have Ba6:ys=(ds.map ?l8).map V.bl:=by rw[hys,qi9];rfl
     rw[Ba6]at El;refine⟨D,_,rfl,?wX,_,rfl,?_⟩;have At6:(ds.map ?l8).all id=ds.all ?l8:=by rw[List.all_map];rfl
     by_cases ha:(ds.all ?l8)=true;rotate_left
     . have ha':(ds.all ?l8)=false:=by simpa using ha
       refine ?SI (by rw[At6,ha'];rfl);have e2:?BB:=by rw[Q5];rw[ha',hc];rfl
       rw[e2]at k;exact ?hE
     refine ?QK (by rw[At6,ha];simp);have e2:?BG=(?a6 (?gR<2) || Mr xs (ds.map vZ)):=by rw[Q5];rw[ha,hc];rfl
     rw[e2]at k;ext b9;ext aT
     . have h2:(?a6 (?gR<2))=true:=h1;rw[h2]at k;exact ?hE
     . have h2:(?a6 (?gR<2))=false:=?S
       rw[h2]at k;have hint:=GR ha
       have tv:TI K H1 ?CZ (ds.map vZ):=by
        have:=?H s1 hd;rw[hint]at this;exact this
       refine⟨_,rfl,_,rfl,a,_,xs,ds.map vZ,rfl,?eC,tv,by simpa using hn4,?_,?hE⟩;intro f hf;rw[qe5]at ha
       have hm:L2.D.int f∈ds:=by
        rw[hint];exact qd6.mpr ⟨f,hf,rfl⟩
       have:=ha _ hm;simp only[Dr,qc4,qm7]at this;obtain⟨⟨f0,f1⟩,f2⟩:=this;refine⟨f0,f1,?_⟩;rw[qa4];rw[cV,cV]at f2;have h3:¬?gR<2:=?cG
       rw[cV]at h3;omega
noncomputable abbrev Vf:Stmt:=top 13
theorem HV:?v ?q6 ?q6 (Au Vf):=Bj
theorem iE[?x](F:E4 K ?rU ?rU Vf f fd)[?w][?N1][?zZ]:?QD ?q6 Yj:=by
 refine ?P4 HV;obtain⟨a,xs,k,p,n,rfl,hL,kq⟩:=h;refine(?VV (Me (?T5 C9 (?WK ?o ?V)) (Me (?T5 Ga ?f7) (Od (Oe Ij ?q Am ?t)))));refine⟨_,rfl,_,rfl,_,rfl,a,?e p,?e p,k,xs,rfl,hL,rfl,_,rfl,?_⟩;ext sQ
 . refine⟨_,rfl,_,?e n,rfl,rfl,_,rfl,?_⟩;refine ?SI rfl;refine ?JJ
   have e2:?AX=! ?UT n:=by
    unfold M8;rw[e];by_cases z:n=0
    . subst z;simp
    . simp[z]
   rw[e2]at kq;exact kq
 . have e2:?AX=false:=by unfold M8;simp[e]
   rw[e2]at kq;exact kq
noncomputable abbrev Gk:Stmt:=E8 ?lJ 4
theorem Es:?v [?aC,"i","first","j","at","quotient"] ?x8 (Au Gk):=Bj
theorem P9[?x](F:E4 K ?xW ?C8 Gk f fd)[?w][?zQ]:?U8 ?x8 (?OU Ks):=by
 refine ?P4 Es;obtain⟨H0,p,q,M,n,W,t,cnt,s,i,f,rfl,x,hi,hf,hif,hds,ok,k⟩:=h;ext sW;obtain⟨r,b,lx,_⟩:=x.ex;ext f8
 refine⟨_,(Ah (B8 qb5 rfl (AY ?g ?aE (?OL ?o ?kK)) (?T3 3 Es.nd) (Ae (?PM Es.nd (?UJ ?W))
  (Ae (?WE Es.nd (Br Jn (?VC ?cM ?E) (?VC (?UJ ?W) ?E)))
  (?WF ?aL (?W0 (Fc (Aa Oc (Aa ?l (?OL ?q (M4 Im ?aL))))))))))),?_⟩
 refine⟨_,rfl,_,rfl,p,Ac,dx,fs,_,rfl,hp,?J,?f4,l3,q,_,rfl,?DM,(f:Int),(cnt:Int),?tW,O9m,?_⟩;rw[show(((cnt:Nat):Int)-?LP).toNat=cnt-f by omega];clear lx hp l1 l2 l3 l4 l5;refine Cn (lo:=(f:Int)) (n:=cnt-f) (fun d σ G=>Nv fun o3 o4 o5=>σ=[?y,?bM,iS f,o3,o4,o5]/\?QO G (?o6)) ⟨?j,?j,?j,rfl,x⟩ ?_ ?_
 . rintro d σ G hd C0;revert σ;refine wU ?_;intro o3 o4 o5 y Ei;ext AD;ext f8;ext sV;obtain⟨h1,h2,h3⟩:=hds ?dR O9m O9m;have bo:=?HD;have ej:?LP+?II=((?tJ:Nat):Int):=O9m
   rw[ej];have hji:f+d≠i:=O9m
   have er:(?o6).1 ?dR=s.1 ?dR:=Yp t i f s d _ hji;ext A3;obtain⟨cj,_,ecj,_,hcj⟩:=?P1 ?p7 (show f+d<n by omega);rw[er]at hcj;refine⟨_,rfl,p,Ac,dx,fs,_,rfl,hp,?J,?f4,l3,_,rfl,q,_,_,_,rfl,rfl,?vU,?m8,?_⟩;refine⟨_,rfl,p,Ac,dx,fs,_,rfl,hp,?J,?bS,l1,_,rfl,r,_,_,_,rfl,rfl,?dK,?k1,_,rfl,ci,_,_,_,rfl,rfl,mX,?rQ,_,rfl,p,Ac,dx,fs,_,rfl,hp,?J,?bS,l1,_,rfl,r,_,_,_,rfl,rfl,?dK,Bm ecj,_,rfl,cj,_,_,_,rfl,rfl,hcj,?rQ,_,_,rfl,rfl,?J3,?_⟩;have hsx:∀G',?QO G' (?B9 i ?dR (-(?mK)) (?o6))->?QO G' (?yW t i f s (d+1)):=fun G' z=>z.re (by rw[Lat.shrS,er]);have hq:(?mK).natAbs<2 ^ big:=Lat.fdiv_small h2 (?iL i _ hi h1);refine Ap (?VM [?y,?bM,iS f,?c (?e (?tJ:Int)),?c (?e ((t ?dR:Nat):Int)),?T4 (?mK)]) ?_ fun key=>?OM ⟨by rw[←?F6];rfl,rfl⟩;ext e1;generalize ?mK=qq at hsx hq;ext bA;ext sP
   . refine⟨_,rfl,p,dx,fs,rfl,hp,?gY,_,rfl,_,rfl,_,rfl,_,rfl,?aJ,?vC⟩;have s1:?h G (?v8):=?kA;have hT:?QB ?v8 (?KV):=?lZ
     generalize ?v8=G1 at s1 hT;refine⟨p,?hO,Ac,r,b,_,n,W,_,_,?KV,rfl,?lL,?wM,hT,⟨hi,O9m,?RF hji z.symm,?QX (by rw[qc7];exact hq) (?iL _ _ O9m hc)⟩,⟨O9m,hi,hji,?QX (by rw[qc7,qc7];exact hq) (bo.2 _ _ hi hc)⟩,O9m,O9m,?mL⟩;exact⟨_,_,_,rfl,hsx _ (y.redo s1 sx n1 n2 z)⟩
   . have h5:qq=0:=?hL
     subst h5;exact⟨_,_,_,rfl,hsx _ (y.re (Lat.addS_zero _ _ _).symm)⟩
 . ext aG;refine wU ?_;intro o3 o4 o5 y Ei;exact k _ y
noncomputable abbrev N3:Stmt:=E8 ?lF 4
theorem Je:?v [?aC,"i","j",?fF,?dL,?h0] ?z2 (Au N3):=Bj
theorem y6[?x](F:E4 K ?xT ?FV N3 f fd)[?w](Kj:?PP P Ag)(Mj:?PO P Ag):?U8 ?z2 (?OU AU):=by
 refine ?P4 Je;obtain⟨H0,p,L,R,nm,n,w,m,i,j,l,r,f,rfl,x,hij,hj,mn,mw,ok,k1,k2⟩:=h;obtain⟨sQ,sP⟩:=x.sm;ext lM;ext zX;obtain⟨p1,p1'⟩:=ok.p1;obtain⟨p2,p2'⟩:=ok.p2
 refine⟨_,(Ae (?P2 Je.nd ?cM)
  (Ae (?PM Je.nd ?gI)
  (Ah (B7 (?OS Ij (Br Iy ?E ?q)) (Ae (?WJ (Fc (Aa Oc (?W4 ?o ?f5))))
  (Ae (?WE Je.nd (C5 ?W ?d4 Mj hr (?W4 ?o (Aa ?q ?fO))))
  (Ae (?WJ (?UI (Br Jn (Br ?rI ?f1 ?E) ?f1)))
  (Ae (K0 ?f1 (K3 ?W ?l Fy))
  (Ah (K0 (Br ?rI (Br Jn ?q ?f1) ?E) (K3 ?W ?o Fy))))))) Bl)))),?_⟩
 ext F
 refine⟨_,rfl,p,Aj,jA,iW,_,rfl,hpa,?G,?eL,wW,_,rfl,nm,_,_,_,rfl,rfl,?uM,?SJ (show i<m by omega),?_⟩;refine⟨_,rfl,p,Aj,jA,iW,_,rfl,hpa,?G,?eL,wW,_,rfl,nm,_,_,_,rfl,rfl,?uM,?SJ hj,?_⟩;refine ?OT (?VK j);ext bQ;refine(?R4 p1);ext aT;rotate_left
 . have h2:f j%f i=0:=?S
   exact k1 (?B7 h2)
 ext F
 obtain⟨dl,fl,hL,_,_,_,m4,_⟩:=lx.ob;refine ?OJ (fun σ' H'=>σ'=(?VK j)/\∃r1 b1,?TO H' ?nR/\LX H' Ag L r1 b1 ?j n n ?nR (fun a=>a=nm\/a=r2\/a=b2)/\?V3 r/\H0 r1=none/\H0 b1=none)
 . refine⟨_,rfl,p,Aj,jA,iW,_,rfl,hpa,?G,?fI,ZC,L,dl,fl,rfl,hL,?KM,_,rfl,_,rfl,?aJ,?vC⟩;have s1:?h H (?y5):=?kA;have hT:?QB ?y5 (?BE):=?lZ
   generalize ?y5=G1 at s1 hT;refine⟨L,?hO,Ag,r1,b1,_,n,n,l,_,?BE,rfl,?bZ,?wM,hT,?JG,?JG,O9m,O9m,?mL⟩;obtain⟨y1,y2⟩:=x.left lx ly f3 f4 s1 sx n1 n2 z;exact ?OM ⟨rfl,r',b',y1,z,y2,?xE n1,?xE n2⟩
 ext A8;obtain⟨r1',XE,x2,zA,ly2,f1',f2'⟩:=EG;obtain⟨tvb,dxb,fsb,hpb,l1b,l2b,l3b,l4b,l5b,l6b,l7b,_⟩:=x2.ob;obtain⟨dr,fr,hR,_,_,_,m5,_⟩:=ly2.ob;refine qx4 (fun σ' H'=>Th fun ?HF (g a b:Int)=>Hq (?VD j) (?uU (f i) (f j) g a b) (Ed K H' P ?p9) (?UB ?nR) (?U5 L ?nR) (?V3 ?rH)) ?k ?_
 . refine⟨_,rfl,p,Aj,dxb,fsb,_,rfl,hpb,?G,?hB,l4b,R,dr,fr,rfl,hR,?K1,_,rfl,_,rfl,_,rfl,_,rfl,?_⟩;refine⟨R,Ag,r2,b2,_,w,w,i,j,f i,f j,r,_,rfl,?bZ,ly2,O9m,O9m,O9m,O9m,O9m,p1,p2,p1',p2',ok.br,fun P g a b G fr kp hT sh z=>?_⟩;obtain⟨y1,y2⟩:=x2.right zA ly2 f1' f2' f3 f4 fr kp z;exact ?OM ⟨P,g,a,b,rfl,sh,hT,y1,y2,z⟩
 refine Ah6 fun P g a b H3 sh hT3 x3 lx3 ly3=>?_;intro sq;obtain⟨tvc,dxc,fsc,hpc,l1c,l2c,l3c,l4c,l5c,l6c,l7c,_⟩:=x3.ob;obtain⟨dl3,fl3,hL3,_,_,_,m6,_⟩:=lx3.ob;have g0:=sh.pos;have lg:?H1:=?PY p1';have lb:b.natAbs<L9:=qb8 sh.lb p1';ext O7;have ek:∀z:Int,z.fdiv g=z / g:=fun z=>?o1;have lk':(?IM).natAbs<2 ^ 18000:=qb8 ?jX (A86 lb p2');refine ?OJ (?W1 (?UB (shL i j g b f l)))
 . refine⟨_,rfl,p,Aj,dxc,fsc,_,rfl,hpc,?G,?fI,l3c,L,dl3,fl3,rfl,hL3,m6 _ ?c0,_,rfl,_,rfl,_,rfl,P,_,_,_,rfl,rfl,hT3,rfl,_,rfl,_,_,rfl,rfl,CQ lb p2',_,rfl,P,_,_,_,rfl,rfl,hT3,rfl,_,_,rfl,rfl,cb _,_,rfl,?aJ,?_⟩;rw[ek];intro T1 hT1;have s1:?h H3 (?uX):=?kA;have hT:?QB ?uX (?EY):=?lZ
   generalize ?uX=G1 at s1 hT;refine⟨L,?hO,Ag,r1',XE,_,n,n,_,_,?EY,rfl,?bZ,lx3.keep s1,hT,⟨O9m,O9m,O9m,?QX (by rw[qc7];exact lk') (ok.bl.2.1 _ _ O9m hc)⟩,⟨O9m,O9m,O9m,?QX (by rw[qc7,qc7];exact lk') (ok.bl.2.2 _ _ O9m hc)⟩,O9m,O9m,?mL⟩;obtain⟨y1,_⟩:=x3.left lx3 ly3 f3 f4 s1 sx n1 n2 z;exact ?OM ⟨rfl,jY (s1.seqT hT3) (?V0 hL3) sx,y1⟩
 refine jT fun H4 hT4 x4=>?_;intro sq;obtain⟨tvd,dxd,fsd,hpd,l1d,l2d,l3d,l4d,l5d,l6d,l7d,_⟩:=x4.ob;refine⟨_,rfl,P,_,_,_,rfl,rfl,hT4,rfl,_,rfl,p,Aj,dxd,fsd,_,rfl,hpd,?G,?eL,l5d,_,rfl,nm,_,_,i,rfl,rfl,x4.nu,Kh (?yO),?_⟩;have e1:?D8=(?x5).map ?Y:=oS O9m;have x5:=x4.num (ns':=?x5);rw[←e1]at x5;have hT5:Ed K (upd H4 nm (?p (?D8))) P ?p9:=Ak2 hT4 x4.nu;refine E9 (?W1 (WX K Ag Aj H0 H' p L R nm n w ?j (shL i j g b f l) ?rH (?x5))) ?_ fun Mh=>Mh _ _ ⟨rfl,hT5,x5⟩;refine jT fun H6 hT6 x6=>?_;intro sq;obtain⟨tve,dxe,fse,hpe,l1e,l2e,l3e,l4e,l5e,l6e,l7e,_⟩:=x6.ob;have lA:(f i / g).natAbs<L9:=qb8 ?jX p1';refine⟨_,rfl,_,rfl,P,_,_,_,rfl,rfl,hT6,rfl,_,_,rfl,rfl,cb _,_,rfl,_,_,rfl,rfl,(by rw[ek];exact CQ lA p2'),_,rfl,p,Aj,dxe,fse,_,rfl,hpe,?G,?eL,l5e,_,rfl,nm,_,_,j,rfl,rfl,x6.nu,Kh (by rw[Bu];exact hj),?_⟩;rw[ek]
 have e2:(VI m ?L6).set j (?e (f i / g*f j))=(?DK).map ?Y:=by
  rw[oS hj];show VI m _=VI m _;refine Qt ?IL;unfold YG Lat.put2;by_cases z1:c=j
  . subst z1;rw[?bI,?pK,?bI]
  . rw[?U z1];by_cases z2:c=i
    . rw[?aB z2,?aB z2]
    . rw[?U z2,?U z2,?U z1]
 have x7:=x6.num (ns':=?DK);rw[←e2]at x7;exact k2 g a b _ sh x7
noncomputable abbrev Sh:Stmt:=top 67
theorem Cz:?v [?a0,"k",?h0,?vY,?vT,?mF,?b1,?hH,"turned_loops","turned_gauges","fillings",?iA,"i",?bJ,?u7,?w4] ?wN (Au Sh):=Bj
theorem fH[?x](F:E4 K ?rE ?rE Sh f fd)[?w][?NI][?lN][?sJ](Ng:Has P w K mg ?d ?nX ?pU 3 (AR K)):?QD ?wN Wk:=by
 refine ?P4 Cz;obtain⟨a,tp,nm,r1,D1,D2,b2,vl,vg,xs,k,z,k0,w,L,G,f,l,r,rfl,hL,E3,hw,hvl,hvg,x,hz,hkz,hkw,hf0,bl1,bl2,bL,bG,kq⟩:=h;obtain⟨la,lu,rfl,hlq,zN,_⟩:=Id hvl;obtain⟨ga,gu,rfl,_,_,_⟩:=Id hvg;have hm:?hG<=40:=?z4;have hwl:w<=40:=by rw[hw];exact ?z4
 refine⟨_,(Ae (?VW 5 (?OR ?f7))
  (Ae (?VW 6 (?OR (?VB (?T5 Bt ?c3))))
  (Ae (?VW 7 (Br (?WH Vt) ?eJ (Br PN ?AH (Br Ix ?aL (?OR (?VB ?eJ))))))
  (Ae (?VW 8 (?T5 K9 (Aa (An C7 hr (Aa ?eJ ?dX)) (Aa ?q ?i7))))
  (Ae (?VW 9 (?T5 K9 (Aa ?eJ (Aa ?E ?i7))))
  (Ae (?VW 10 (?T5 C7 (?OL ?eJ (?WO (?VB ?eJ)))))
  (Ae (?VW 11 ?d0)
  (Ae (B8 qb5 rfl (?RY T3 ?j9) (?V7 (?T3 12 ?c9) (?T3 13 ?c9)) (Ae (?VW 14 (Y6 (?OS Fg (pv 13)) K4 (?T5 Ng (Aa ?i (?OL (Br Dl ?l Am) (?VC ?u9 ?yG))))))
  (Ae (?VW 15 (?T5 Ng (Aa ?i (?OL ?l (?VC ?c4 ?yG)))))
  (Ah (?WL ?pQ (?VB (Fc (Aa (pv 13) (Aa (pv 15) (Aa (?T5 Ng (?VX ?l (Ba ?O ?cU ?yG ?z))) (Aa (pv 14) Af)))))))))))
  (?V8 ?pQ))))))))),?_⟩
 ext F
 refine ?OJ (?VO [?n,?a1,?aV,?N,?aZ,?d7,none,none,none,none,none,none,none,none,none,none])
 . ext O6;ext cQ
 ext bQ;refine ?OJ (fun σ' H'=>?T6 none none/\?hI)
 . refine⟨_,rfl,_,rfl,a,k,xs,rfl,hL,O9m,fun P H1 nP s1 hP=>?_⟩;ext A0;exact ?wE
 ext A7;refine ?OJ (fun σ' H'=>Em fun(nn:Addr)=>E5 (?T6 ?eR none) ?bG (?VF nn (?B1)))
 . have x1:=?gX s1;refine⟨_,rfl,tp,_,_,_,rfl,rfl,x1.tup,rfl,?aJ,fun l1 hl1=>?_⟩;have s2:?h H1 (?JL):=?B hl1;have e2:upd H1 l1 ?nZ l1=?c ?nZ:=Ab;generalize ?JL=H2 at s2 e2;have x2:=x1.same s2;refine⟨_,rfl,_,rfl,tp,_,_,_,rfl,rfl,x2.tup,rfl,nm,_,rfl,?m x2.num,_,_,rfl,rfl,l1,_,_,rfl,rfl,e2,?_,?_,?_,fun l2 hl2=>?_⟩
   . rw[Bu];omega
   . rw[Bu];omega
   . rw[Bu];exact ?jC
   have er:(?eB (?uQ-(((VI k0 f).length:Nat):Int)).toNat [?iH]).flatten=?KS:=by
    rw[Bu,show(?uQ-?qK).toNat=z-k0 by omega];generalize z-k0=n
    induction n with
    | zero=>rfl
    | succ n ih=>rw[qj3,ql4,ih];rfl
   rw[er];have s3:=?bN (?B (o:=?p (?KS)) hl2);have x3:=x1.same s3;refine⟨nm,l2,_,_,rfl,rfl,x3.num,?bK,Cb (by rw[Bu,qk7];omega),fun nn hnn=>?_⟩;refine ?OM ⟨nn,rfl,(?v5).trans (?B hnn),?_⟩;rw[Ab,iG hkz]
 refine Ti fun nn H2 s2 hnn=>?_;intro sq;refine ?OJ (fun σ' H'=>Em fun(tl:Addr)=>E5 (?T6 ?eR ?fL) ?qD (?UO tl (dT z ?hC (?kM z l.2 L))))
 . have x2:=?gX s2;refine⟨_,rfl,tp,_,_,_,rfl,rfl,x2.tup,rfl,_,rfl,?e7,z,z,_,rfl,x2.lback,O9m,O9m,fun F as H3 hal R3=>?_⟩;refine⟨_,rfl,_,rfl,?f F,?yX,z,z,?hG,_,_,rfl,R3.rep hal,?H (?bN ?kH) hvl,O9m,O9m,O9m,?QM bl2 bL,fun tl at_ H4 kQ R4=>?_⟩;exact ?OM ⟨tl,rfl,R3.same.trans ?zD,R4.rep kQ⟩
 refine Ti fun tl H3 s3 kQ=>?_;intro sq;have s23:=?hN;refine ?OJ (fun σ' H'=>Em fun(tg:Addr)=>E5 (?T7 none none) (?UE H3) (?UO tg (dT z ?hC (?kM z l.1 G))))
 . have x3:=?gX s23;refine⟨_,rfl,tp,_,_,_,rfl,rfl,?uE,rfl,_,rfl,_,rfl,?f r1,?qA,z,z,?hG,_,_,rfl,x3.left,?H s23 hvg,O9m,O9m,O9m,?QM bl1 bG,fun tg at_ H4 htg R4=>?_⟩;exact ?OM ⟨tg,rfl,?zD,R4.rep htg⟩
 refine Ti fun tg H4 s4 htg=>?_;intro sq;have OA:=s23.trans s4;refine ?OJ (fun σ' H'=>Em fun(fi:Addr)=>E5 (?T7 ?k4 none) (?UE H4) (?UO fi (dT w w r.1)))
 . have x4:=?gX OA;obtain⟨_,du,ez,hdq,Bd9,_⟩:=Id ?IS;cases ez;refine⟨_,rfl,tp,_,_,_,rfl,rfl,?vJ,rfl,_,rfl,tp,_,_,_,rfl,rfl,?vJ,rfl,D2,du,rfl,?m hdq,?_⟩;rw[Bd9];refine⟨?eW,w,w,_,rfl,?IS,O9m,O9m,fun fi at_ H5 hfi R5=>?_⟩;exact ?OM ⟨fi,rfl,R5.same,R5.rep hfi⟩
 refine Ti fun fi H5 s5 hfi=>?_;intro sq;refine ?OJ (fun σ' H'=>Em fun ?b8=>B4 (?T7 ?k4 ?C) (?xG) (H5 D=none) ?G7)
 . ext N4
 refine O0 fun D H6 s6 nD hD=>?_;intro sq;have s25:=OA.trans s5;have Aq7:=(?QV ?o2 s5) _ _ hnn;have Bb2:=?H (s4.trans s5) kQ;have Bb3:=?H s5 htg;have hL5:=?H s25 hL;refine ?OJ (fun σ' H'=>Xr fun ?wA ?HB=>B4 (σ'=?F9) (?xG) (?b4=?hS) (B6 H' us (?TX Cg k)))
 . refine(?UF nn ⟨_,?OQ s6 Aq7⟩)
   let Bl2:?aO:=fun i σ G'=>Xr fun ?wA ?HB=>B4 (σ=?F9) (?h H5 G') (G' D=?hS) (B6 G' us (?lK (?TX Ea k)))
   refine Z7 (K:=K) (a:=nn) (xs:=?B1) Bl2
    ⟨[],?j,?j,?j,?j,rfl,s6,hD,?yP⟩ (fun i σ G' _ hz=>by obtain⟨_,_,_,_,_,_,g,_⟩:=hz;exact ?OQ g Aq7) ?_ ?_
   . rintro i v σ G' p hv C0 hp
     ext Q
     ext NH;have hi:i<z:=by have:=?pE;rwa [Bu]at this
     rw[Cp hi]at hv;cases hv;have usl:?Q3 i:=by have:=rU.len;rw[qa4,qo8]at this;exact this
     have sp:?h G' (?HC):=?cA;have ep:upd G' p (?A [?b5,?eZ]) p=?c (?A [?b5,?eZ]):=Ab;refine(?QW ep);generalize ?HC=G1 at sp ep;have g1:=?cE sp
     have rows:∀(t:Addr) (h w':Nat) (M:Lat.Mat) (G2:Hp),Rep K G2 (?pL) (dT h w' M)->i<h->∃tu b,SqL K G2 t tu/\DZ tu ?P=?c (?qI)/\SqL K G2 b (VI w' (M i)):=fun t h w' M G2 hr hih=>by
      obtain⟨_,tu,ez,hq,hl,On⟩:=Id hr;cases ez;obtain⟨u,hu⟩:∃u,?T2 tu u:=⟨tu[i],qa0 O9m⟩
      obtain⟨_,b,rfl,hb⟩:=On i u hu;exact⟨tu,b,hq,Bm hu,hb⟩
     refine ?OJ (fun σ' H'=>Em fun(fl:Addr)=>E5 (σ'=[?n,?a1,?aV,?N,?aZ,?d7,?dW,?eR,?fL,?hF,?k4,?C,?bV,?FU,rS fl,yQ]) (?kF) (H' fl=?c (.dK (cK (if ?pZ=0 then [] else Mq xs (k+1) (r.1 i))))))
     . ext bA;ext aT
       . have e0:?pZ=0:=?S
         refine fun fl hfl=>?OM ⟨fl,rfl,?B hfl,?_⟩;rw[Ab,?aB e0];rfl
       . have e0:¬?pZ=0:=?S
         have hik:i<k0:=by
          by_cases hh:i<k0
          . exact hh
          . unfold Lat.numAt at e0;rw[?U hh]at e0;exact ?oL rfl e0
         obtain⟨tu,b,h1q,h2q,h3q⟩:=rows fi w w r.1 G1 (?H g1 hfi) O9m;refine⟨_,rfl,_,rfl,_,_,rfl,rfl,_,rfl,_,rfl,fi,tu,_,_,rfl,rfl,h1q,h2q,a,b,xs,k+1,Jq w (r.1 i),rfl,?H g1 hL5,O9m,?yS,by rw[Lr,hw],fun fl G2 nfl g2 hfl=>?_⟩;refine ?OM ⟨fl,rfl,g2,?_⟩;rw[hfl,?U e0,hw];rfl
     refine Ti fun fl G2 g2 hfl=>?_;ext AB;refine ?OJ (fun σ' H'=>Em fun(lp:Addr)=>E5 (σ'=[?n,?a1,?aV,?N,?aZ,?d7,?dW,?eR,?fL,?hF,?k4,?C,?bV,?FU,rS fl,rS lp]) (?UE G2) (H' lp=?c (.dK (cK (Mq xs k (?kM z l.2 L i))))))
     . obtain⟨tu,b,h1q,h2q,h3q⟩:=rows tl z ?hC _ G2 (?H EF Bb2) hi;refine⟨_,rfl,_,rfl,_,rfl,_,rfl,tl,tu,_,_,rfl,rfl,h1q,h2q,a,b,xs,k,Jq ?hC (?kM z l.2 L i),rfl,?H EF hL5,O9m,?yS,?KW,fun lp G3 nlp g3 hlp=>?_⟩;exact ?OM ⟨lp,rfl,g3,hlp⟩
     refine Ti fun lp G3 g3 hlp=>?_;intro sq;have xA:=EF.trans g3;have Ak8:=(?BA g2).trans g3;obtain⟨tu,b,h1q,h2q,h3q⟩:=rows tg z ?hC _ G3 (?H xA Bb3) hi;refine⟨_,rfl,?m ⟨rfl,_,?OQ Ak8 D7⟩,_,rfl,_,rfl,_,rfl,_,rfl,_,rfl,_,rfl,tg,tu,_,_,rfl,rfl,h1q,h2q,a,b,xs,k,Jq ?hC (?kM z l.1 G i),rfl,?H xA hL5,O9m,?yS,?KW,fun gp G4 ngp g4 hgp=>?_⟩;refine⟨_,rfl,?aJ,?wI⟩;have g5:=?B (o:=?PW fl) ht;have et:upd G4 t (?PW fl) t=?c (?PW fl):=Ab;generalize upd G4 t (?PW fl)=G5 at g5 et;have g45:=g4.trans g5;have s05:=Ak8.trans g45;refine(?PI D ?pP);have hP:Ig G5 (?pL) (Ea xs k z k0 L G f l r i):=⟨t,lp,gp,fl,rfl,et,g45 _ _ hlp,g5 _ _ hgp,(?yK g45) _ _ hfl,(Ao (g3 _ _ hfl) ngp).symm⟩
     have nDt:∀c o,?CR->(∀vs,o≠?p vs)->?gP:=fun c o e h z=>by
      rw[z,?pP]at e;cases e;exact h _ rfl
     have sx:∀c o,?gP->?CR->upd G5 D (?p (?KH)) c=?cO:=fun c o hc e=>by rw[Ai hc];exact e
     refine⟨?KH,_,_,_,_,rfl,?UX s05 nD,Ab,?_⟩;rw[qj7,qb4];exact B6.snoc (B6.put (?pP) (B6.same s05 rU)) (Ig.put hP (?pP))
   . rintro σ G' C0;ext NH;rw[Bu]at rU;exact ?OM ⟨us,_,_,_,_,rfl,g,D7,rU⟩
 refine Ah5 fun us o12 o13 o14 yQ H7 s7 hD7 rU=>?_;intro sq;exact⟨_,rfl,kq D us H7 (s25.free nD) (s25.trans s7) hD7 rU⟩
noncomputable abbrev N7:Stmt:=E8 ?HG 2
theorem v7:?v ?r7 ?r7 (Au N7):=Bj
theorem z6[?x](F:E4 K ?uF ?KO N7 f fd)[?w][?NS]:?U8 ?r7 ?EP:=by
 refine ?P4 v7;obtain⟨p,k,B,xs,ls,rfl,bk,sB,hk0,vA,kq⟩:=h;ext sT;obtain⟨dx,P,Lv,Lf,lu,wu,hp,_,WY,hW,_,_⟩:=bk.ob;obtain⟨E,eu,qs,e1,e2,hE,rE⟩:=hW.at (k:=k.toNat) (by have:=bk.n4;ext fB)
 rw[qa9]at e2;obtain⟨ps,hps,rfl⟩:=?h2 e2;have hpl:=(bk.lev _ _ hps).len bk.len;have nl:(Rc ps).length<=ps.length:=qj8 _ _;have el:=rE.len
 have hat:DZ lu k=?QP E:=by
  have:=Bm e1
  rwa [?CU]at this
 refine⟨_,(Ae (Bx (?T5 Gb (?OL ?l (?WC 4 Ld))))
  (Ah (Bb (Cd (N':=["order",?w4,"gauge",?u7]) (cap:=[none,none,none,none]) ?g ?X (?P1 Ce ?cM) (?OK (Eh (K:=K) (n:=4) ?g (Bp (?T3 0 CP) (Bp (?T3 1 CP) (Bp (?T3 2 CP) (Bp (?T3 3 CP) Eg)))))) ?a7 (?OK (Fc (?WK (?TR ?V) (Aa (?TR ?aU) (?VB (?TR ?f7)))))))))),?_⟩
 ext F
 refine⟨_,rfl,k,4,rfl,hk0,vA,?_⟩;refine⟨_,rfl,p,Aw,dx,_,_,rfl,sB _ _ hp,?d5,?B8,rfl,_,rfl,Lv,lu,_,_,rfl,rfl,?OQ sB WY,hat,E,rfl,⟨_,?OQ sB hE⟩,?aR⟩
 let Bl1:?a4:=fun i ys τ G=>B4 ?jZ ?IO (Cy H G ys ((Rc ps).take i)) (Th fun o1 o2 o3 o4=>τ=[o1,o2,o3,o4])
 refine Cw (K:=K) (a:=E) (xs:=eu) Bl1
  ⟨?cJ,Ab,⟨rfl,fun i v p e=>?kW⟩,_,_,_,_,rfl⟩ (fun i ys τ G _ hz=>by ext t6;exact ?OQ g (sB _ _ hE)) ?_ ?_
 . rintro i v ys τ G hv C0;revert τ;refine Ao5 ?_;intro g D7 rY o1 o2 o3 o4 Ei;ext gS;obtain⟨q,hq,pv⟩:=rE.get hv;obtain⟨t,c1,c2,c3,rfl,et,d1,d2,d3,_⟩:=?y8 (sB.trans g)
   have yl:ys.length<=40:=by
    have:=rY.1;ext t5
   ext MY;refine⟨_,rfl,_,rfl,c1,_,rfl,?m d1,fun a1 h1=>?_⟩;have g1:=?RO (cK q.2.1) h1;refine⟨_,rfl,c2,_,rfl,?RX g1 d2,fun a2 h2=>?_⟩;have g2:=?jD (?HL);refine⟨_,rfl,c3,_,rfl,?RX g2 d3,fun a3 h3=>?_⟩;have g2':=?HL;have g3':=?RO (cK q.2.2.2) h3;have g3:=g2.trans g3';refine⟨?aJ,fun t' ht'=>?_⟩;have g4':=?B (o:=?A [?eX,?f a1,?f a2,?f a3]) ht';have g4:=?yK g4';refine⟨?tN,?aS,?UX g4 hD,Ab,?_,_,_,_,_,rfl⟩;rw[qe7,hq];refine Cy.snoc ((rY.same g4).put (?tN)) (Oy.put ?_ (?tN));exact⟨t',a1,a2,a3,rfl,⟨(?cE g3).free ht',?nE h1,(?eY).free h2,(?cE g2).free h3⟩,Ab,((g2'.trans g3').trans g4') _ _ Ab,(g3'.trans g4') _ _ Ab,g4' _ _ Ab⟩
 . rintro ys τ G ⟨g,D7,rY,_⟩;rw[el,qd0]at rY;exact kq ps D ys G hps hD g D7 rY
noncomputable abbrev Sn:Stmt:=top 12
theorem FA:?v ?qH ?qH (Au Sn):=Bj
theorem FL[?x](F:E4 K ?nA ?nA Sn f fd)[?w](Z6:Has P w K mg ?d ?rU ?q6 4 (Yj K)):?SR ?qH Wn:=by
 refine ?P4 FA;obtain⟨a,b,xs,k,ms,rfl,hL,hb,hm,kq⟩:=h
 refine⟨_,(Ae (?TL Gz)
  (Ah (Bb (?W2 (pK (Cd (N':=[?cF,?bJ,?a0,"k"]) (cap:=[none,none,?jJ,?f0]) ?g ?X (P4 ?o) (?OK (?V7 (?T3 0 wL) (?T3 1 wL))) ?a7 (?OK (?T5 Z6 (Aa ?o (Aa ?q ?c3)))))))))),?_⟩
 ext F
 refine(?SB _);ext e2;refine ?Q6 ?aP hb;refine⟨_,rfl,b,o,?aP,rfl,Ab,?aR⟩;obtain⟨VC,m9⟩:=GC hD
 let Bl0:?a4:=fun i zs τ H1=>D6 (zs=((ms.take i).map ?BY).map V.bl) (H1 b=?q0) ?BH (Np b H H1) (?QR [o1,o2,?n,?a1])
 refine c8 (d:=b) (o:=o) (kvs:=?aP) Bl0
  ⟨rfl,?_,Ab,?_,?j,?j,rfl⟩ (fun i zs τ H1 _ hz=>by obtain⟨_,e,_⟩:=hz;exact e) ?_ ?_
 . ext cS;exact Ab
 . intro c q n1 e2;rw[Ai (Ao e2 VC),?iS];exact e2
 . rintro i kk x zs τ H1 p hx C0 hp;revert τ;refine WN ?_;intro hz1 hb1 El hk1 o1 o2 Ei;subst hz1;ext f9;ext A5;have sp:?UA p [?eX,?bX]:=?cA;ext iV;refine⟨_,rfl,_,rfl,_,rfl,_,rfl,a,xs,k,q.1,q.2,rfl,?H sp (?hQ hk1 hb hL),?_⟩;refine⟨?IX,?vX,?_,?_,Ab,fun c r n1 e2=>?_,_,_,rfl⟩
   . rw[qo7,hq,qb4,qb4];rfl
   . ext cS;exact ?S0 hb1
   . rw[Ai (fun z=>by rw[z,VC]at e2;cases e2)];exact ?S0 (hk1 c r n1 e2)
 . rintro zs τ H1 ⟨rfl,hb1,El,hk1,_⟩;rw[Ka,qd0]at El;refine⟨hb1,D,ms.map ?BY,rfl,.of (by rw[?pB];exact El),?_⟩;rw[List.all_map];refine kq _ ?BM;ext fA
   . subst z;rw[hb]at e2;cases e2;exact Ab
   . rw[?c1];exact hk1 c q z e2
noncomputable abbrev Kx:Stmt:=top 31
theorem Jw:?v [?gV,?cF,?m0] [?gV] (Au Kx):=Bj
theorem Xf[?x](F:E4 K ?oR ?oR Kx f fd)[?w](QV:Has P w K mg ?d ?oA ?uT 4 (JZ K)):?SR [?gV] Yi:=by
 refine ?P4 Jw;obtain⟨v,xs,rfl,hL,hs,hx,k⟩:=h;obtain⟨a,us,rfl,hq,r⟩:=id hL;have hl:?FN:=?mO
 refine⟨_,(Ae (B8 qb5 rfl (?RY T3 ?aI) (?V7 (?T3 1 Jw.nd) (?T3 2 Jw.nd)) (Ah (B7 (?VE QV (Aa (?W7 ?iB ?l) ?aU)) (?V8 ?l) Bl)))
  (?V8 Y5)),?_⟩
 ext F
 refine(?UF a ⟨us,hq⟩)
 let Bk9:?aO:=fun i σ G=>Ju fun o1 o2=>σ=[?n,o1,o2]/\?z5
 refine Z7 (K:=K) (a:=a) (xs:=us) Bk9
  ⟨?j,?j,rfl,?fW H⟩ (fun i σ G _ hz=>by obtain⟨_,_,_,s1⟩:=hz;exact ?rL) ?_ ?_
 . rintro i v σ G p hv C0 hp
   ext Q
   revert σ;refine ?qM;intro o1 o2 s1 Ei;have hi:?qF:=by have:=?pE;omega
   obtain⟨dv,QT,rv⟩:=r.getV hv
   have edv:dv=?J5:=by
    rw[qa9,?jV]at QT;simpa using QT.symm
   subst edv;have sp:?h G (?K3):=?cA;ext iV;generalize ?K3=G1 at sp;have s2:=?o4;refine⟨_,rfl,_,rfl,_,rfl,a,us,rfl,?mD hq,?IL⟩;have s3:?h G1 (?I4):=?B hc;have ec:upd G1 c (?RM ?P) c=?c (?RM ?P):=Ab;generalize ?I4=G2 at s3 ec;have s4:=?hN
   have Be1:LT K G2 (?f c) (?JC):=by
    refine⟨c,_,rfl,.of ec,?_⟩;rw[Us,qo3];exact(?aD s4 r).take i
   refine⟨_,rfl,c,v,?J5,?JC,rfl,Be1,?H s4 rv,fun G3 s5=>?h1⟩;rw[NB (hs i xs[i] ?mY)];ext dB;exact⟨_,_,rfl,s4.trans s5⟩
 . ext aG;refine ?qM;intro o1 o2 s1 Ei;exact k G s1
noncomputable abbrev Ma:Stmt:=E8 ?lJ 2
theorem Ht:?v [?aC,?vO,"i","at","head",?dL] ?yV (Au Ma):=Bj
theorem Zc[?x](F:E4 K ?tZ ?K7 Ma f fd)[?w][?N2][?zQ](J6:?PO P Ac):Bw P w K mg ?d Ex 5 f fd ?yV (?OU eT):=by
 refine ?P4 Ht;obtain⟨H0,p,q,M,n,W,t,spot,i,s,Nx,rfl,x,hs,hi,ok,k⟩:=h;ext sW;obtain⟨r,b,lx,f1,f2⟩:=x.ex;ext f8;ext sV;obtain⟨h1,h2,h3⟩:=ok.hd ?M (qa1 _) hs;obtain⟨o1,o2⟩:=ok.oth;ext A3;obtain⟨cs,_,ecs,_,hcs⟩:=?P1 ?p7 ?kP
 refine⟨_,(Ae (?P2 Ht.nd ?cM)
  (Ae (?PM Ht.nd (?UJ ?cM))
  (Ae (?WE Ht.nd (?UJ ?gI))
  (Ae (B7 (?OS Fg (Br Iy ?aL ?E)) (Ah (?W0 (?UI (Br Jn ?aL ?E)))) (Ae (Bx (C5 ?i ?J J6 hr (?W4 ?o (Aa ?E ?dX))))
  (?TJ ?l)))
  (?TJ ?o))))),?_⟩
 ext F
 refine⟨_,rfl,p,Ac,dx,fs,_,rfl,hp,?J,?f4,l3,_,rfl,q,_,_,_,rfl,rfl,?JR,?SJ hs,?_⟩;refine⟨_,rfl,p,Ac,dx,fs,_,rfl,hp,?J,?bS,l1,_,rfl,r,_,_,_,rfl,rfl,?dK,Bm ecs,_,rfl,cs,_,_,_,rfl,rfl,hcs,?rQ,?_⟩;refine⟨_,rfl,p,Ac,dx,fs,_,rfl,hp,?J,?bS,l1,_,rfl,r,_,_,_,rfl,rfl,?dK,?k1,_,rfl,ci,_,_,_,rfl,rfl,mX,?rQ,?_⟩;refine Ap (fun σ' H'=>?uH/\?bD) ?_ ?HV;ext bQ;refine qx4 (t:=?tU) (fun σ' H'=>?uH/\∃s1,?PG H' s1/\bW n W t i ?eU i s1/\Hds W t ?eU i s1.1/\Nx (?yW t i ?eU s1 (i-?eU))) ?k ?_
 . refine(?R4 h2);ext sP
   . have h5:?h9%?i8=0:=?hL
     have h6:?h9=?uS*?i8:=(Int.ediv_mul_cancel (?B7 h5)).symm;obtain⟨WI,wI⟩:=ok.add _ h6;refine⟨_,rfl,p,dx,fs,rfl,hp,?gY,_,rfl,_,rfl,_,rfl,_,rfl,_,_,rfl,rfl,?J3,_,rfl,?aJ,?_⟩;rw[?F6];have hk:(?uS).natAbs<L9:=qb8 ?jX o2;generalize ?uS=kk at h6 WI wI hk;intro T1 hT1;have s1:?h H (?yM):=?kA;have hT:?QB ?yM (?uW):=?lZ
     generalize ?yM=G1 at s1 hT;refine⟨p,?hO,Ac,r,b,_,n,W,_,_,?uW,rfl,?lL,?wM,hT,⟨hi,O9m,O9m,fun c hc=>iK (by rw[qc7];exact hk) (ok.bo.1 _ _ O9m hc)⟩,⟨O9m,hi,O9m,fun c hc=>iK (by rw[qc7,qc7];exact hk) (ok.bo.2 _ _ hi hc)⟩,O9m,O9m,?mL⟩;refine ?OM ⟨rfl,_,x.redo s1 sx n1 n2 z,WI,?FY,wI⟩;have e:(tnS (?uW) s).1 j=?pR:=Lat.addR_row_ne (?QJ i);rw[e];exact ?LZ
   . refine Ap (fun σ' H'=>?uH/\∃g a c,?uU (?i8) (?h9) g a c/\?PG H' (?tC)) ?_ ?xR;rotate_left
     . refine⟨_,rfl,p,dx,fs,rfl,hp,?gY,_,rfl,_,rfl,_,rfl,_,rfl,?_⟩;refine⟨p,Ac,r,b,_,n,W,?M,i,_,_,s,_,rfl,?lL,lx,O9m,hi,O9m,O9m,O9m,h2,o1,h3,o2,ok.bo,fun L g a c G fr kp _ sh z=>?_⟩;exact IQ _ _ ⟨rfl,g,a,c,sh,x.redo2 lx f1 f2 fr kp z⟩
     refine Ii fun G EG=>?_;intro sq;obtain⟨g,a,c,sh,y⟩:=EG;obtain⟨WI,wI,ok3⟩:=ok.ble g a c sh
     have hd1:Hds W t ?eU i (?tC).1:=fun j hj1 hj2=>by
      have e:(?tC).1 j=?pR:=?HS (?QJ spot) (?QJ i) _ _ _ _;rw[e];exact ?LZ
     ext MM;refine⟨H0,p,q,M,n,W,t,i,_,?M,?hU,rfl,y,O9m,O9m,?m O9m,hd1,WI,?KB⟩;refine ?OM ⟨rfl,_,z,wI,?FY,ok3⟩;rw[Yp _ _ _ _ _ _ (?QJ spot)];exact hd1 j hj1 hj2
 refine Ii fun G EG=>?_;intro sq;obtain⟨s1,y,WI,hd1,wI⟩:=EG;ext MM;exact⟨H0,p,q,M,n,W,t,i,s1,i,?hU,rfl,y,hi,O9m,?s (qa1 _),hd1,WI,fun G' z=>k _ _ z wI⟩
noncomputable abbrev Jy:Stmt:=E8 ?lJ 3
theorem M1:?T0 ?kT Jy:=Bj
theorem Vl[?x](F:E4 K ?v1 ?H4 Jy f fd)[?w][?N2]:?TD 5 Yk:=by
 refine ?P4 M1;obtain⟨H0,p,q,M,n,W,t,i,s,rfl,x,ok,k⟩:=h;ext sW;obtain⟨r,b,lx,_⟩:=x.ex;ext f8;refine(?WP (B8 qb5 rfl (UB ?g ?aE (Aa (?WG ?kK) (?OL (M4 Im Am) (M4 Im Am)))) (?T3 1 M1.nd) (?TJ ?l)));refine⟨_,rfl,p,Ac,dx,fs,_,rfl,hp,?J,?f4,l3,q,_,rfl,?DM,_,_,rfl,rfl,_,rfl,_,rfl,i+1,?tW,O9m,?_⟩;clear lx hp l1 l2 l3 l4 l5
 let Bk8:?aO:=fun d σ G=>Em fun o1=>σ=?D9/\SX Ac H0 G p q M n W t ?aW (?JB)
 refine qX (hi:=?qL-1) (n:=i+1) Bk8 ?FO ?_ ?_
 . rintro d σ G hd C0
   ext Q
   revert σ;ext AE;ext AD;ext f8;rw[show ?qL-1-?II=((i-d:Nat):Int) by omega];obtain⟨WI,wI⟩:=?HD;refine⟨_,rfl,p,dx,fs,rfl,hp,?gY,_,rfl,_,rfl,_,_,rfl,rfl,?_⟩;refine⟨H0,p,q,M,n,W,t,i+1,?JB,i-d,i-d+1,rfl,y,O9m,O9m,?m O9m,WI,wI,?KB⟩;rw[show i+1-(i-d+1)=d by omega]at z;exact(?RE _ z)
 . ext aG;ext AE;exact k _ y
noncomputable abbrev Gj:Stmt:=E8 ?lF 3
theorem Cs:?T0 [?aC,?mF,"gap","i","j"] Gj:=Bj
theorem P8[?x](F:E4 K ?uG ?EZ Gj f fd)[?w](Ki:Kl P w K mg ?d Aj ?xT ?z2 4 (?OU AU)):?TD 5 aV:=by
 refine ?P4 Cs;obtain⟨H0,p,L,R,nm,n,w,m,l,r,f,Sv,rfl,x,mn,mw,v0,vs,k⟩:=h;obtain⟨JO,Aa7,pA⟩:=T.x_GAPS;obtain⟨sQ,sP⟩:=x.sm;ext lM
 refine⟨_,(Ae (?SY ?lB ?kK)
  (Ae (B8 qb5 rfl (?P1 Ua (Lp (v:=?f JO) ?g Aa7 rfl)) (?T3 2 ?lB) (Ah (?WI (?VB (Br Ix ?l ?o)) (Ah (Bx (C5 ?i ?G Ki hr (?OL ?q (Br Dl ?q ?o))))))))
  (Ah (?WI ?V (Ah (B8 qb5 rfl (AY ?g ?aE (Aa (?VZ ?q) ?V)) (?PR ?lB) (Ah (Bx (C5 ?i ?G Ki hr (Aa ?q ?fO)))))))))),?_⟩
 ext F
 refine ?OJ (?VO [?y,?iN,none,none,none])
 . exact⟨_,rfl,p,Aj,jA,iW,_,rfl,hpa,?G,?eL,wW,nm,_,rfl,?m (?uM),?OM ⟨by rw[qa4,Lr];rfl,rfl⟩⟩
 ext bQ;refine ?OJ (fun σ' H'=>Ju fun ?EC=>?UH o3 none/\∃(d:Nat) (f:?iC) (l r:?eE),d<=5*m/\?oX/\?TO H' l)
 . refine⟨JO,rfl,⟨_,pA H⟩,?_⟩
   let Bk7:?aO:=fun g σ' G=>Ju fun ?EC=>?UH o3 none/\∃(d:Nat) (f:?iC) (l r:?eE),d<=g*m/\?MA
   refine kU (K:=K) (a:=JO) (xs:=(([32,16,8,4,2]:?kQ).map ?Y)) Bk7 ⟨?j,?j,rfl,0,f,l,r,O9m,v0,x⟩ (fun g σ G _ _=>pA G) ?_ ?_
   . rintro g y σ G hy C0
     ext Q
     obtain⟨o2,o3,rfl,d,f,l,r,hd,hv,z⟩:=C0
     have hg:∃gp:Nat,y=?e ?tM/\1<=gp/\gp<=32/\g<5:=by
      match g,hy with
      | 0,hy=>cases hy;exact(?PZ 32 ?K)
      | 1,hy=>cases hy;exact(?PZ 16 ?K)
      | 2,hy=>cases hy;exact(?PZ 8 ?K)
      | 3,hy=>cases hy;exact(?PZ 4 ?K)
      | 4,hy=>cases hy;exact(?PZ 2 ?K)
      | g+5,hy=>simp at hy
     obtain⟨gp,rfl,g1,g2,g5⟩:=hg;refine⟨_,rfl,_,rfl,_,_,rfl,rfl,_,rfl,O9m,O9m,?_⟩;refine Cn (lo:=0) (n:=(?q4-?tM).toNat) (fun i σ' G=>Em fun(o3:?oS)=>σ'=[?y,?iN,?T4 ?tM,o3,none]/\∃(d:Nat) (f:?iC) (l r:?eE),d<=g*m+i/\?MA) ⟨o3,rfl,d,f,l,r,hd,hv,z⟩ ?_ ?_
     . rintro i σ G hi ⟨o3,rfl,d,f,l,r,hd,hv,z⟩;rw[ql6];ext N6
       have hm5:g*m+m<=5*m:=by
        have:=qb6 m (show g+1<=5 from g5);rw[qf8,qf7]at this;exact this
       refine⟨_,rfl,p,dxc,fsc,rfl,hpc,?BK,_,rfl,_,rfl,_,rfl,_,_,rfl,rfl,?_⟩;obtain⟨o1,o2',o3'⟩:=?SH (i+gp);refine⟨H0,p,L,R,nm,n,w,m,i,i+gp,l,r,f,rfl,z,O9m,O9m,mn,mw,o1,?BV,?HH⟩
       . exact⟨_,rfl,d+1,f,l,r,O9m,o2' QT,z⟩
       . exact⟨_,rfl,d+1,_,_,_,O9m,?E0,z'⟩
     . rintro σ G ⟨o3,rfl,d,f,l,r,hd,hv,z⟩;refine⟨_,_,rfl,d,f,l,r,?_,hv,z⟩;rw[qf8,qf7];omega
   . rintro σ G ⟨o2,o3,rfl,d,f,l,r,hd,hv,z⟩;exact ?OM ⟨o2,o3,rfl,d,f,l,r,hd,hv,z⟩
 refine OJ fun o2 o3 G EG=>?_;intro sq;obtain⟨d,f,l,r,hd,hv,z⟩:=EG;refine ?KT;refine Cn (lo:=0) (n:=(?q4).toNat) (fun i σ' G=>Ju fun(o3 o4:?oS)=>?UH o3 o4/\∃(d:Nat) (f:?iC) (l r:?eE),d<=5*m+i*m/\?oX/\?HY m i f/\?uL) ⟨o3,?j,rfl,d,f,l,r,O9m,hv,fun a b ha=>O9m,z⟩ ?_ ?_
 . rintro i σ G hi ⟨o3,o4,rfl,d,f,l,r,hd,hv,hc,z⟩;rw[qe3]at hi;rw[ql6]
   have him:i*m+m<=m*m:=by
    have:=qb6 m (show i+1<=m from hi);rw[qf8,qf7]at this;exact this
   refine⟨_,rfl,_,_,rfl,rfl,_,rfl,_,_,rfl,⟨O9m,O9m,O9m,O9m⟩,?_⟩;refine Cn (lo:=?P+1) (n:=?HP) (fun j σ' G=>Em fun(o4:?oS)=>?UH ?bV o4/\∃(d:Nat) (f:?iC) (l r:?eE),d<=5*m+i*m+j/\?oX/\Lat.ChainAt m i (?pN) f/\?uL) ⟨o4,rfl,d,f,l,r,O9m,hv,hc.at,z⟩ ?_ ?_
   . rintro j σ G hj C0
     ext Q
     obtain⟨o4,rfl,d,f,l,r,hd,hv,hc,z⟩:=C0;rw[show ?P+1+?xL=((?pN:Nat):Int) by omega];ext N6;refine⟨_,rfl,p,dxc,fsc,rfl,hpc,?BK,_,rfl,_,rfl,?_⟩;obtain⟨o1,o2',o3'⟩:=?SH (?pN);refine⟨H0,p,L,R,nm,n,w,m,i,?pN,l,r,f,rfl,z,O9m,O9m,mn,mw,o1,?BV,?HH⟩
     . exact⟨_,rfl,d+1,f,l,r,O9m,o2' QT,hc.skip QT,z⟩
     . exact⟨_,rfl,d+1,_,_,_,O9m,?E0,hc.step O9m O9m sh.pair,z'⟩
   . rintro σ G ⟨o4,rfl,d,f,l,r,hd,hv,hc,z⟩;rw[show i+1+?HP=m by omega]at hc;refine⟨_,_,rfl,d,f,l,r,?_,hv,hc.next,z⟩;rw[qf8,qf7];omega
 . rintro σ G ⟨o3,o4,rfl,d,f,l,r,hd,hv,hc,z⟩;rw[qe3]at hc;exact k d f l r _ hv hc z
noncomputable abbrev Ey:Stmt:=top 14
theorem Li:?v ?rO ?rO (Au Ey):=Bj
theorem Lj[?x](F:E4 K ?r2 ?r2 Ey f fd)[?w](V0:Has P w K mg ?d ?nA ?qH 5 (Wn K)):?SQ ?rO Ge:=by
 refine ?P4 Li;obtain⟨a,b,xs,n,ms,rfl,hL,hb,hm,hn,kq⟩:=h;refine(?VV (Bf (?P1 Zx ?g) T.n_any BR (Aa (Cd (N':=["k",?a0,?cD]) (cap:=[none,?jJ,?f0]) ?g ?X (?P8 ?aU) (?OK (?T3 0 An4)) ?a7 (?OK (?T5 V0 (Aa ?l (Aa ?i ?aU))))) Af)));ext sM
 let Bk6:?a4:=fun i zs τ H1=>B4 ?g2 ?BH (zs=(?lK ?t9).map V.bl) (?P6 [o,?n,?bF])
 refine Hn Bk6
  ?iQ ?_ ?_
 . rintro i zs τ H1 hi C0;ext lU;intro s1 El hzs o Ei;have hi2:i<n:=O9m
   refine⟨_,rfl,_,rfl,_,rfl,a,b,xs,_,ms,rfl,?eC,?oB,hm,?JA⟩;refine⟨?u8,?e6 (by rw[hzs,qa4,qa4,qo8];omega),?wZ,Ab,?_,_,rfl⟩;rw[qj7,qb4,qb4,hzs,?SD (?dJ) ?P];rfl
 . rintro zs τ H1 ⟨s1,El,hzs,_⟩;rw[qe3]at hzs;refine⟨D,(?hX n).map ?t9,rfl,.of (by rw[El,hzs]),?_⟩;rw[List.any_map];exact kq _ s1
noncomputable abbrev Sm:Stmt:=top 29
theorem EZ:?v ?i0 ?i0 (Au Sm):=Bj
theorem fK[?x](F:E4 K ?qN ?qN Sm f fd)[?w](J7:Has P w K mg ?d ?GR ?i0 1 (KA K))(Ml:Has P w K mg ?d ?oR [?gV] 5 (Yi K)):?SQ ?i0 Tl:=by
 refine ?P4 EZ;obtain⟨v,xs,rfl,hL,hs,E3,k⟩:=h;refine(?RS J7 (Od (Oe yO (?T5 Ml ?aI) Y5 ?t)));refine⟨_,rfl,v,xs,rfl,hL,E3,_,rfl,?_⟩;refine ?SI ?g;exact⟨_,rfl,v,xs,rfl,hL,hs,E3,fun H1 s1=>(?UU ?hE)⟩
noncomputable abbrev Jz:Stmt:=E8 ?lJ 1
theorem Ip:?v [?aC,"i",?vO] ?kT (Au Jz):=Bj
theorem Vm[?x](F:E4 K ?zE ?ML Jz f fd)[?w](Nf:Has P w K mg ?d ?FD [?g3] 1 (Ts K))[?zQ](Mi:Kl P w K mg ?d Ac ?tZ ?yV 5 (?OU eT)):Bw P w K mg ?d Ex 6 f fd ?kT (?OU Yl):=by
 refine ?P4 Ip;obtain⟨H0,p,q,M,n,W,t,i,s0,I,rfl,x,hi,P,ht,k⟩:=h;ext sW
 refine⟨_,(Ae (?P7 Ip.nd Am)
  (Ae (Tx qb5 (?b2 (Ss (Be P5 ?o ?l ?t) (N8 (?RR kE)))) (Ae (?T9 (?RR Fg) (Bx (C5 ?i ?J Mi hr (Aa ?o ?V))))
  (Ah (?P7 Ip.nd (?VZ ?o)))))
  (Ae (?TB Hz)
  (Ae (?TB Hz)
  (Ae (Bx (Hz (K:=K) qe4 qr7 qr6 Vo ?W (?OL ?o (?T5 Nf ?jI))))
  (Ah (?T9 (?OS P5 (?VC ?gI ?gI)) (?W0 (Fc (Aa Oc ?aU)))))))))),?_⟩
 ext F
 refine ?OT [?y,?bM,?T4 ?LJ];ext bQ;refine ?OJ (fun σ' H'=>Nv fun spot st s=>Hq ?oY (SX Ac H0 H' p q M n W t i s) ?M0 ?KI (Ie W (?gH) st) ((spot<i->st<?hR)))
 . refine⟨fun m σ' G=>Ju fun spot s=>D6 ?oY (?PG G s) ?M0 ?KI (m=i-spot),⟨_,0,s0,rfl,x,P.start,?aQ,rfl⟩,?_⟩;rintro m σ G C0;refine UT ?_;intro _;obtain⟨spot,s,rfl,y,hI,hs,rfl⟩:=C0;obtain⟨st,hb⟩:=Ie.ex (P.ok ?M s hs hI);ext AD;ext f8;ext sV;ext A3;refine⟨_,rfl,_,rfl,_,_,rfl,rfl,_,rfl,?_⟩;ext aT
   . have hlt:spot<i:=by have:?p8<?P:=?S
                         omega
     refine⟨_,rfl,p,Ac,dx,fs,_,rfl,hp,?J,?f4,l3,_,rfl,q,_,_,_,rfl,rfl,?vU,?SJ hlt,_,rfl,p,Ac,dx,fs,_,rfl,hp,?J,?bS,l1,_,rfl,r,_,_,_,rfl,rfl,?dK,?k1,ci,W,st,_,rfl,mX,hb,O9m,_,_,rfl,rfl,_,rfl,?_⟩;ext lP
     . have hle:t spot<=st:=by have:?IG:=?cG
                               omega
       refine⟨fun σ' G'=>Ju fun JY s'=>B4 (σ'=[?y,?bM,?c (?e ((JY:Nat):Int))]) (?IT) (I JY s') (JY=?hU),?_,?_⟩
       . rintro σ' G' ⟨JY,s',rfl,z1,z2,rfl⟩;exact⟨i-?eU,O9m,?hU,s',rfl,z1,z2,hlt,rfl⟩
       refine Ap (t:=?tU) (fun σ' G'=>?vV/\∃s',?IT/\I ?eU s') ?_ ?xR;rotate_left
       . refine⟨_,rfl,p,Ac,dx,fs,_,rfl,hp,?J,?f4,l3,_,rfl,q,_,_,_,rfl,rfl,?vU,?SJ hlt,_,rfl,p,Ac,dx,fs,_,rfl,hp,?J,?bS,l1,_,rfl,r,_,_,_,rfl,rfl,?dK,?k1,ci,W,st,_,rfl,mX,hb,O9m,rfl,_,rfl,?_⟩;refine ?dP (fun h3=>?_) (fun h3=>?_)
         . have he:?hR=st:=by
            have:?mT=?w7:=?JF
            omega
           refine⟨_,rfl,p,dx,fs,rfl,hp,?gY,_,rfl,_,rfl,?_⟩;refine⟨H0,p,q,M,n,W,t,?M,i,s,I ?eU,rfl,y,hlt,hi,P.meet ?M s hlt hI (?ES) (by rw[he];exact hb.2.1),fun G' s' z1 z2=>?_⟩;exact IQ _ _ ⟨rfl,s',z1,z2⟩
         . have he:¬?hR=st:=by
            have:¬?mT=?w7:=?JF
            omega
           exact IQ _ _ ⟨rfl,s,y,P.skip ?M s hlt hI ?ES⟩
       rintro _ G' ⟨rfl,s',z1,z2⟩;exact⟨_,rfl,_,_,rfl,rfl,?hU,s',rfl,z1,z2,rfl⟩
     . have hle:¬t spot<=st:=by have:¬?IG:=?cG
                                omega
       exact ?OM ⟨?M,st,s,rfl,y,hI,hs,hb,fun _=>O9m⟩
   . have hlt:¬spot<i:=by have:¬?p8<?P:=?S
                          omega
     exact ?OM ⟨?M,st,s,rfl,y,hI,hs,hb,fun z=>?oL z hlt⟩
 refine OI fun spot st s G y hI hs hb hex=>?_;intro sq;obtain⟨r,b,lx,f1,f2⟩:=y.ex;ext f8;ext sV;obtain⟨bs,xb,nb⟩:=lx.bk;obtain⟨pr,pb⟩:=lx.refs;have rb:=lx.ne;obtain⟨ci,rci,oE,mci,mX⟩:=?qO;obtain⟨di,rdi,edi,mdi,hdi⟩:=?DF
 have six:∀l:Nat,i<l->seqIndex? ?rD l=?c i:=fun l hl=>by
  unfold seqIndex?;simp only[show ¬?rD<0 by omega,if_false,qe3]
  first | (rw[?pK]) | (rw[?aB ?iF]) | (ext bC)
 refine ?OJ (fun σ' H'=>E5 ?oY ((∀a,a≠r->H' a=G a)) (?VF r (?WA ci ?fZ)))
 . refine⟨_,rfl,p,Ac,dx,fs,_,rfl,hp,?J,?bS,l1,?m ⟨rfl,_,?dK⟩,_,rfl,_,rfl,p,Ac,dx,fs,_,rfl,hp,?J,?bS,l1,?m ⟨rfl,_,?dK⟩,_,rfl,r,_,_,i,_,rfl,rfl,?lA,O9m,O9m,six _ (by ext t3),oE,?_⟩;refine(?UY r (by ext NY));ext NY
 refine jT fun G1 e1 r1=>?_;intro sq;refine ?OJ (fun σ' H'=>E5 ?oY ((∀a,a≠b->H' a=G1 a)) (?VF b (?WA di ?jK)))
 . have hp1:G1 p=_:=(e1 _ pr).trans hp;have b1:G1 b=_:=(e1 _ rb.symm).trans ?yC;refine⟨_,rfl,p,Ac,dx,fs,_,rfl,hp1,?J,?nM,l2,?P0 b1,_,rfl,_,rfl,p,Ac,dx,fs,_,rfl,hp1,?J,?nM,l2,?P0 b1,_,rfl,b,_,_,i,_,rfl,rfl,b1,O9m,O9m,six _ (by ext t4),edi,?_⟩;refine(?UY b (by ext NZ));ext NZ
 refine jT fun G2 e2 b2=>?_;intro sq;have r2:=(e2 _ rb).trans r1;have e02:∀a,a≠r->a≠b->G2 a=G a:=fun a h1 h2=>(e2 a h2).trans (e1 a h1);have hp2:=(e02 _ pr pb).trans hp;have qr:q≠r:=?RF lx.nr ?LC;have qb:q≠b:=?RF lx.nb ?LC;have q2:=(e02 _ qr qb).trans y.st;obtain⟨ya,ma⟩:=xa.move hi hs rci r2 fun a ha=>e02 a (?vW).1 (?vW).2.1;obtain⟨yb,mb⟩:=xb.move hi hs rdi b2 fun a ha=>e02 a (?oT).1 ?BW;obtain⟨cs,_,ecs,_,hcs⟩:=?P1 ya.row ?kP
 have At3:Lat.moveR s.1 i ?M ?M=?gH:=by
  rw[Lat.move_row];unfold Lat.mvI;rw[?pK,?bI]
 rw[At3]at hcs;refine ?OJ (fun σ' H'=>?vV/\SX Ac H0 H' p q M n W (?DS t ?M st) ?aW (?DP))
 . refine⟨_,rfl,p,Ac,dx,fs,_,rfl,hp2,?J,?f4,l3,?P0 q2,_,rfl,_,rfl,p,Ac,dx,fs,_,rfl,hp2,?J,?bS,l1,_,rfl,r,_,_,_,rfl,rfl,.of r2,Bm (by rw[BF,Vp]at ecs;exact ecs),cs,W,st,_,rfl,hcs,hb,O9m,?_⟩;refine⟨q,_,?M,_,rfl,rfl,q2,by rw[Bu];exact hs,?HJ,?OM ?l6⟩;rw[HK hs];have qp:p≠q:=Fh hp y.st ?i5;refine⟨⟨r,b,⟨⟨dx,fs,by rw[Ai qp];exact hp2,l1,l2,l3,l4,l5⟩,⟨_,ya.put qr.symm fun a ha z=>(?JV).2.2 ?LM,fun a ha=>?JV⟩,⟨_,yb.put qb.symm fun a ha z=>(?D2).2.2 ?LM,fun a ha=>?D2⟩,rb,lx.nr,lx.nb,?p6⟩,f1,f2⟩,Ab,fun a o e=>?_,y.fp,y.fq,y.mq,⟨sQ,sP,O9m⟩⟩
   . by_cases haq:a=q
     . rw[haq,Ab]at z;cases z
     . rw[Ai haq,e02 a (fun e=>lx.nr ?AP) (fun e=>lx.nb ?AP)]at z;exact lx.nn a ha z
   . rw[?SL y.fq,e02 a (Ao e f1) (Ao e f2)];exact y.same _ _ e
 refine Ii fun G3 z=>?_;intro sq;obtain⟨r3,b3,l3x,_⟩:=z.ex;obtain⟨dx3,XA,hp3,l1,l2,l3,l4,l5⟩:=l3x.ob;obtain⟨as3,xa3,na3⟩:=l3x.rw;obtain⟨c3,_,ec3,_,hc3⟩:=?P1 xa3.row ?kP;have qY:(?DP).1 ?M=?gH:=At3;rw[qY]at hc3
 have est:?DS t ?M st ?M=st:=by
  unfold Lat.insT;rw[?pK,?bI]
 refine⟨_,rfl,p,Ac,dx3,XA,_,rfl,hp3,?J,?bS,l1,_,rfl,r3,_,_,_,rfl,rfl,.of xa3.2.1,Bm ec3,_,rfl,p,Ac,dx3,XA,_,rfl,hp3,?J,?f4,l3,_,rfl,q,_,_,_,rfl,rfl,.of z.st,?m8,c3,_,_,_,rfl,rfl,hc3,Bm (by rw[est];exact Cp hb.2.2),_,_,rfl,rfl,_,rfl,?_⟩;ext sP
 . have h5:s.1 i st<0:=?hL
   refine⟨_,rfl,p,dx3,XA,rfl,hp3,?gY,_,rfl,?aJ,?vC⟩;have s1:?h G3 (?xB):=?kA;have hT:?QB ?xB (.mi ?M):=⟨T1,_,rfl,?bK,⟨_,_,rfl,rfl,_,_,rfl,rfl,rfl⟩⟩
   generalize ?xB=G4 at s1 hT;refine⟨p,?hO,Ac,r3,b3,_,n,W,_,_,.mi ?M,rfl,?lL,l3x.keep s1,hT,?kP,?kP,O9m,O9m,fun r' b' G5 sx n1 n2 w=>?_⟩;refine k _ ?M st s hs hI hb hex ((z.redo s1 sx n1 n2 w).re ?_);rw[Lat.insS,?aB (by rw[qY];exact h5)];rfl
 . have h5:¬s.1 i st<0:=?hL
   refine k _ ?M st s hs hI hb hex (z.re ?_);rw[Lat.insS,?U (by rw[qY];exact h5)]
noncomputable abbrev Yv:Stmt:=top 46
theorem Qz:?v [?a0,?fT,?iA,?cF,?bJ] ?xD (Au Yv):=Bj
theorem mH[?x](F:E4 K ?s2 ?s2 Yv f fd)[?w](Fd:Has P w K mg ?d ?r2 ?rO 6 (Ge K))(S4:Has P w K mg ?d ?rP ?tK 2 (Tp K)):Bw P w K mg ?d Ex 7 f fd ?xD (aS K):=by
 refine ?P4 Qz;obtain⟨a,b,xs,ms,rfl,hL,hb,hm,h4,⟨kc,vA,hch⟩,kq⟩:=h;ext sT
 refine⟨_,(Ae (B7 (?VE Fd (?VX ?l (?WC 4 Ld))) ?o5 Bl)
  (Ae (?P7 Qz.nd K4)
  (Ae (Ob (B8 qb5 rfl ?BZ (?PC Qz.nd (?T3 4 Qz.nd)) (?S4 S4 ?iP)))
  ?l4))),?_⟩
 ext F
 refine⟨_,rfl,_,rfl,a,b,xs,4,ms,rfl,hL,hb,hm,?K,?GX⟩;have hany:((?hX 4).any ?t9)=true:=qp5.mpr ⟨kc,qe6.mpr vA,hch⟩;ext iY;rw[hany];ext e2;have vC:=?eC;have hb1:=?oB;refine ?aR;have m9:b≠D:=Ao hb1 hD;have s2:?h H1 (?F8):=?cJ;have hL2:=?H s2 vC;have hb2:=?Q4 hb1;generalize hH2:?F8=H2 at s2 hL2 hb2;have Mw:H2 D=?c ?g9:=by rw[←hH2];exact Ab
 refine ?Q6 ?aP hb2;ext A4
 let Bk5:?aO:=fun i σ G=>Ju fun o1 o2=>B4 (σ=[?n,?bF,?C,o1,o2]) ?DG (?VN (?tA)) ((∀c q,?jA->?gP->H2 c=?dV->?nP))
 refine V4 (d:=b) (o:=o) (kvs:=?aP) Bk5
  ?M2 (fun i σ G _ hz=>?GF) ?_ ?_
 . ext cS;exact Mw
 . intro c q n1 n2 e;rw[?iS];exact e
 . rintro i kk x σ G p hx C0 hp
   ext Q
   ext gT;intro o1 o2 dG D7 MT Ei;ext f9;have npb:b≠p:=Ao dG hp;have npD:D≠p:=Ao D7 hp;ext A5;have hqd:?k3=q:=?IF
   have hpart:=qe5.mp hch q ?g0
   have hin:0<=q.1/\q.1<?oM:=by
    unfold M8 at hpart;rw[qc4]at hpart;exact fD hpart.1
   have sp:?h G (upd G p (?A [?eX,?bX])):=?cA
   have iU:?F0:=by
    have e1:Np b H2 (?QZ H2):=?oC
    have l1:=?hQ e1 hb2 hL2;have d1:(?QZ H2) D=?c ?g9:=by ext cS;exact Mw
    have e2:Np D (?QZ H2) G:=fun c r n e=>by
     ext fA
     . subst z;rw[Ab]at e;cases e;exact dG
     . rw[?c1]at e;exact ?DY
    exact ?hQ (m:=[]) e2 d1 l1
   obtain⟨us,v,OC,hat,tv⟩:=?hT (?H sp iU) hin.1 hin.2;ext iV
   have hfl:?pV<=4:=by
    ext NV
    . exact ?wR
    . rw[z];exact ?aQ
   have hbl:=bD h4 ms i;refine⟨_,rfl,_,rfl,_,rfl,a,us,_,v,rfl,rfl,OC,hat,_,rfl,D,v,?tA,?kJ,q.2,rfl,?S0 D7,tv,O9m,fun G2 sG2 fZ=>?_⟩;refine⟨_,_,rfl,sG2 _ _ m9 (?S0 dG),?_,?zJ⟩
   . rw[fZ];show _=?c (HO.dK (cK (jO (?tA) (?w3) (?k3).2)));rw[hqd]
   . exact sG2 c r n2 (?S0 (?z1))
 . ext aG;refine Wv ?_;intro o1 o2 dG D7 MT Ei;rw[Ka]at D7;refine⟨dG,_,rfl,kq D _ (?gK hD) (?l9) (?yH)⟩;ext fA
   . ext lQ
   . rw[?c1];exact MT c q z (Ao ?k9 hD) (?Q4 ?k9)
noncomputable abbrev Vc:Stmt:=top 57
theorem Ny:?v [?a3,?b1,?mE,"stairs","i",?h0] ?u6 (Au Vc):=Bj
theorem iC[?x](F:E4 K ?n8 ?n8 Vc f fd)[?w](Vv:gX P w K mg ?d Ac ?dQ 2 (?OU ET))[?NF](J5:Kl P w K mg ?d Ac ?zE ?kT 6 (?OU Yl))(J4:Kl P w K mg ?d Ac ?v1 ?c6 5 (?OU Yk)):Bw P w K mg ?d Ex 7 f fd ?u6 (?OU Wp):=by
 refine ?P4 Ny;obtain⟨v,L,r,b,sv,N,n,w,M,P,PB,J,rfl,hv,lx,hn,hw,TJ,j0,jt,k⟩:=h;obtain⟨ta,us,rfl,Xm,Xl,On⟩:=?jR;ext f8;obtain⟨ps,xp,np⟩:=lx.rw;obtain⟨bs,xb,nb⟩:=lx.bk;have nN:?LV:=?S8 lx.nn
 refine⟨_,(Ae (Av (i:=3) Ny.nd (M6 Vv hr ?g T.m_Stairs (Aa (Cd (N':=[?g3,"paper"]) (cap:=?KQ) ?g ?X (?VR (?OL ?i (Bd (K:=K) ?o))) (?OK (?V7 (?T3 0 PX) (?T3 1 PX))) ?a7 (?OK (Br (?WH Vt) ?i ?l))) (?VB (?TI (Aa (?P1 Bd ?o) Af))))))
  (Ae (B8 qb5 rfl (?P8 ?pO) (?PR Ny.nd) (Ae (Bx (C5 ?q ?J J5 hr ?fO))
  (Ah (Bx (M5 ?q ?J J4 hr)))))
  (Ae (?WE Ny.nd (M6 K8 hr ?g ?s3 (Aa (Cd (N':=?zC) (cap:=?uI) ?g ?X (?P1 Ce (Bd (K:=K) ?q)) (?OK (?T3 0 pW)) ?a7 (?OK (Fo ?iB ?i (F7 ?l) Hy))) (?VB (?P1 Bd ?q)))))
  (?V8 (Fc (Aa (Cd (N':=?zC) (cap:=?uI) ?g ?X (?P1 Ce (Bd (K:=K) ?q)) (?OK (?T3 0 pW)) ?a7 (?OK (?W7 ?iB ?l))) ?dX)))))),?_⟩
 ext F
 refine ?OJ (fun σ' H'=>Ju fun p q=>?U4 none/\SX Ac H H' p q (fun a=>?mH) n ?gZ (?EL) 0 (?CD,PB))
 . refine⟨_,rfl,_,rfl,L,Ag,dx,fs,_,rfl,hp,?d4,?nJ,l1,ta,r,rfl,(?VU Xm),(?VU ?DR),?aR⟩
   refine bP (K:=K) (a:=ta) (b:=r) (xs:=us) (ys:=ps.map ?b6) (n:=n) (by rw[Xl,qa4,xp.1,qx1]) (fun i zs τ H1=>Em fun cs=>B4 (zs=cs.map ?b6) (cs.length=i) (?cX H H1 D cs ?gZ (?CD)) (?QR [o1,o2]))
    ⟨[],rfl,rfl,?uJ hD,?j,?j,rfl⟩ (fun i zs τ H1 _ hz=>by obtain⟨cs,_,_,R,_⟩:=hz;exact⟨?dD Xm,?dD (?DR)⟩) ?_ ?_
   . rintro i x y zs τ H1 pr hx hy ⟨cs,rfl,hcl,R,o1,o2,rfl⟩ hpr;obtain⟨hi,bx,rfl,hbx⟩:=On i x hx;obtain⟨cy,_,ey,_,hcy⟩:=?P1 xp.row hi;rw[ey]at hy;cases hy;have sp:?UA pr [?f bx,?f cy]:=?B hpr;ext NO;refine⟨_,rfl,_,rfl,bx,cy,_,_,rfl,rfl,sp.seq (?dD hbx),sp.seq (?dD hcy),Cb (by rw[Bu,Bu];omega),?iO⟩;have sE:?h (?PK pr [?f bx,?f cy]) (upd (?PK pr [?f bx,?f cy]) E (?p (VI w (M i)++VI n (P i)))):=?mJ;refine⟨sE _ _ (?S0 R.at),?iJ,cs++[E],?m3,?BR,?_,_,_,rfl⟩;refine ?r1 (sp.free hE) (?BA sE) ?_;rw[hcl,Ab,jP (h:=?M9 w M P i) (fun c hc=>Lat.beside_lo hc) (fun a _=>Lat.beside_hi w M P i a)]
   rintro zs τ H1 ⟨cs,rfl,hcl,R,_⟩;have hp1:=?DJ;refine⟨_,rfl,L,Ag,dx,fs,_,rfl,hp1,?d4,?s0,l2,b,_,rfl,?m (?OQ ?cC ?yC),?IR⟩;intro p sU np' WJ yR;have s2:?h H1 (?FB):=?B hB;have hB2:upd H1 B (?p (?jK)) B=?uK:=Ab;generalize ?FB=H2 at s2 hB2 np' WJ;have s3:?h H2 (?MC):=?mC np';have s03:=(?mX s2).trans s3;have f2:∀a,?H9->?hV:=fun a e=>(?mX s2).free e;refine⟨p,sU,_,_,rfl,Ab,fun q H4 fs' hq hfs sx hq4 Q2=>?l6⟩;generalize ?MC=H3 at s3 s03 hq sx;have f3:∀a,?ED->?hV:=?AY;have st:∀a o,H2 a=?cO->?I6:=?UK np';have xc:=(?wQ s2)
   have sY:TA H2 B bs n n PB:=⟨xb.1,hB2,fun i c e=>?Q4 (?cC _ _ (?jY i c e))⟩
   have hHB:?JN:=?CF hB;have Bg7:=?MH
   have q2:H2 q=none:=?pI hq;have nM:∀a,H2 a≠none->?rA->¬(?mH):=fun a h1 h2 h3=>h3.elim (?RF h1 (z▸q2)) h2;refine ?OM ⟨p,q,rfl,⟨⟨D,B,⟨⟨sU,fs',Q2,?_,?_,?_,?h8,?_⟩,⟨cs,xc.same st,?bY⟩,⟨bs,?v4 st,?bY⟩,?_,?_,?_,?p6⟩,?lG,hHB⟩,hq4,fun a o e=>?LO,f2 _ np',f3 _ hq,?bZ,⟨O9m,O9m,?aQ⟩⟩⟩
   . rw[hfs];ext aF
   . rw[hfs];ext aF
   . rw[hfs];ext aF
   . rw[hfs,As,?eP,As,?eP,As,?eP];rfl
   . rw[hfs];exact qa6 ?g8 (qa6 ?oE (qa6 (qi7 ?oE) ?b0))
   . ext sU;obtain⟨z1,z2,z3⟩:=?I2;exact⟨z2,Ao z3 hB,nM _ (by rw[?Q4 z3];ext lT) (nN _ z1)⟩
   . have:=?w0 a ha;refine⟨?RF this ?z6,?RF this (z▸hHB),nM a (sY.there.2 a ha) ?JW⟩
   . exact Ao R.at hB
   . exact nM D (by rw[Bg7];ext lT) (nN _ ?lG)
   . exact nM B (by rw[hB2];ext lT) (nN _ hHB)
   . rcases ha with rfl | ha
     . rw[hq4]at z;cases z
     . cases e:H a with
       | none=>exact ?AW
       | some o=>rw[?LO]at z;cases z
 refine OJ fun p q H1 x0=>?_;intro sq;refine ?OJ (fun σ' H'=>?VL (?UN H' n) n)
 . refine⟨_,rfl,ta,us,rfl,?m (x0.same.seq Xm),_,rfl,O9m,O9m,?_⟩;refine Cn (lo:=0) (n:=(?BL:Int).toNat) (fun i σ' G=>?VL (?UN G i) i) ⟨?j,_,_,rfl,x0,j0 _⟩ ?_ ?_
   . ext t7;revert σ;refine WT ?_;intro o4 t s y hJ Ei;rw[qe3,Xl]at hi;rw[ql6];obtain⟨I,hP,hD⟩:=TJ.step i t s hi hJ;obtain⟨r3,b3,ly,_⟩:=y.ex;obtain⟨dx3,XA,hp3,_,_,_,m4,_⟩:=ly.ob;refine⟨_,rfl,p,dx3,XA,rfl,hp3,?KM,_,rfl,H,p,q,_,n,w+n,t,i,s,I,rfl,y,hi,hP,jt i t s hJ,fun G1 spot st s' hs hI hb hex z=>?_⟩;obtain⟨d1,d2⟩:=hD ?M st s' hs hI hb hex;obtain⟨r4,b4,lz,_⟩:=z.ex;obtain⟨dx4,fs4,Q2,_,_,_,m5,_⟩:=lz.ob;refine⟨_,rfl,p,dx4,fs4,rfl,Q2,?K1,H,p,q,_,n,w+n,_,i,_,rfl,z,d1,fun G2 z2=>?_⟩;exact⟨_,_,_,rfl,z2,d2⟩
   . ext aG;refine WT ?_;intro o4 t s y hJ Ei;rw[qe3,Xl]at y hJ;exact ?OM ⟨o4,t,s,rfl,y,hJ⟩
 refine vW fun o4 t s G y hJ=>?_;intro sq;obtain⟨r,b,ly,f1,f2⟩:=y.ex;obtain⟨dx,fs,hp,l1,l2,l3,l4,l5⟩:=ly.ob;obtain⟨as,xa,na⟩:=ly.rw;obtain⟨bs,xb,nb⟩:=ly.bk;have s0:=y.same;refine ?OJ (fun σ' H'=>Ju fun(L' E:Addr)=>D6 (σ'=[?dG,?cN,?b3,?y,o4,rS L']) (?kN) (?U2 L') (?U2 E) (LX H' Ag L' E b ?j n n ?xY N))
 . refine⟨_,rfl,p,Ac,dx,fs,_,rfl,hp,?J,?bS,l1,r,rfl,(?VU ?dK),?iO⟩;have xa':=?lA
   let Bk4:?a4:=?PB (?cX G G1 E cs n (?DX))
   refine ?PV Bk4 ⟨[],rfl,rfl,?uJ hE,?j,rfl⟩
   . ext MQ
     ext N9;refine(?RD hc);have sF:?h G1 (?RU ?FA ?j):=?B hF;ext MO;rw[hcl,Ab,VQ]
   ext NM;have hp1:=?DJ;refine⟨_,rfl,p,Ac,dx,fs,_,rfl,hp1,?J,?nM,l2,?_⟩;intro L' dM nL WJ yR;have s3:?h G1 (?x3):=?mC nL;refine⟨L',dM,Ag,_,_,rfl,?bZ,Ab,fun H4 fs' hfs hH4=>?l6⟩;have sx:?bL L' (?x3) H4:=by rw[hH4];ext OC
   have hL4:H4 L'=?c (?L Ag dM fs'):=by rw[hH4];exact Ab
   clear hH4;generalize ?x3=G3 at s3 sx;have st:∀a o,G1 a=?cO->?I6:=?UK nL;have nN':∀a,?SN G->?rA:=fun a e=>nN a (?mN e);refine ?OM ⟨L',E,rfl,?mX st,?mN (?CF nL),?mN ?lG,⟨⟨dM,fs',hL4,?_,?_,?_,?h8,?_⟩,⟨cs,?wQ st,?bY⟩,⟨bs,(xb.same ?cC).same st,?bY⟩,?_,nN' _ ?lG,?_,?p6⟩⟩
   . rw[hfs];ext aF
   . rw[hfs];ext aF
   . rw[hfs];ext aF
   . ext MP
   . ext N8
   . ext sU;obtain⟨z1,z2,z3⟩:=?I2;exact⟨z2,?RF ?IN ?GJ,nN' _ z1⟩
   . exact⟨fun z=>?w0 a ha ?z6,?BW,?RF ?JW (?s z)⟩
   . exact ?RF ?IN ?z6
   . exact ?RF ly.nb (?s z)
   . cases e:H a with
     | none=>exact ?AW
     | some o=>rw[st _ _ (?cC _ _ (s0 _ _ e))]at z;cases z
 refine VW fun L' E G4 s4 fL fE lx4=>?_;intro sq;have Q2:=s4 _ _ hp;have xa':=s4 _ _ ?lA;refine⟨_,rfl,p,Ac,dx,fs,_,rfl,Q2,?J,?bS,l1,r,rfl,(?PE xa'),?aR⟩
 let Bk3:?a4:=?PB (?cX G4 G1 D cs w (fun x a=>s.1 x a))
 refine ?PV Bk3 ?kU
 . ext MQ
   ext N9;refine(?RD (s4.seq hc));have sF:?h G1 (?RU ?j ?FA):=?B hF;ext MO;rw[hcl,Ab,Au6]
 ext NM;refine⟨_,rfl,?aJ,?L5⟩;have s5:?h G1 (upd G1 tp (?A ?L4)):=?B htp;have wC:=?mX s5;exact k tp D L' E b cs t s _ ((?wB s4).trans wC) hJ (?bK) (?wQ s5) (lx4.keep wC) ((?wB s4).free ?lG) fL fE f2
noncomputable abbrev Ky:Stmt:=top 49
theorem Jx:?v [?a0,"k","below","columns"] ?gC (Au Ky):=Bj
theorem Xg[?x](F:E4 K ?nY ?nY Ky f fd)[?w][?NS][?sJ][?lN](Qj:Has P w K mg ?d ?GE ["spots",?fT] 1 (Rn K))(dI:Has P w K mg ?d ?s2 ?xD 7 (aS K)):Bw P w K mg ?d Ex 8 f fd ?gC (O5 K):=by
 refine ?P4 Jx;obtain⟨a,xs,k,rfl,hL,E3,h4,h0,h5,kq⟩:=h;ext sT
 refine⟨_,(Ae (Bx (?T5 Gb (?OL ?l (?VZ (?WC 4 Ld)))))
  (Ae (Av (i:=2) Jx.nd (?T5 Bt (?OL ?i (?WG ?l))))
  (Ae (cF (N':=[?cF,"below",?a0]) (cap:=[none,?n3,?jJ]) (i:=3) Jx.nd ?g (by ext A1) ?g ?X (?P1 Ce (?T5 Bt ?c3)) (?OK (?T3 0 yW)) ?a7 (?OK (?T5 Qj (Aa ?l (?VB (An dI hr (Aa ?o (Aa (?VY ?i) Af))))))))
  (?V8 (?T5 C7 (?OL ?q (?WO ?aU))))))),?_⟩
 ext F
 refine⟨_,rfl,_,_,rfl,rfl,k,5,rfl,h0,h5,?_⟩;refine ?OT [?n,?a1,none,none];ext bQ;refine ?OJ (fun σ' H'=>Em fun(B:Addr)=>E5 (σ'=[?n,?a1,rS B,none]) ?bG (?VF B ((?jG).map ?Y)))
 . refine⟨_,rfl,_,rfl,_,_,rfl,rfl,a,k-1,xs,rfl,hL,E3,fun B H1 hB s1 hB1=>?_⟩;exact ?OM ⟨B,rfl,s1,hB1⟩
 refine Ti fun B H1 s1 hB=>?_;intro sq;have vC:=?eC;have bl:?r5<=1000:=?tE;have cl:?KP:=?tE;refine ?OJ (fun σ' H'=>Ju fun(C:Addr) ?wJ=>E5 (σ'=[?n,?a1,rS B,rS C]) (as.length=?rN) (?cX H1 H' C as ?r5 (?U1 0)))
 . refine⟨_,rfl,_,rfl,a,k,xs,rfl,vC,E3,fun P H2 hP s2 hP2=>?_⟩;refine⟨P,rfl,(?PE hP2),?aR⟩
   let Bk2:?a4:=fun i ys τ G=>Em fun ?wJ=>B4 ?oK ?q7 (?cX H2 G D as ?r5 (?U1 0)) (?P6 [o,rS B,?n])
   refine Cw (K:=K) (a:=P) (xs:=(?l2).map ?Y) Bk2
    ?kU (fun i ys τ G _ hz=>by obtain⟨_,_,_,R,_⟩:=hz;exact ?OQ ?cC hP2) ?_ ?_
   . rintro i x ys τ G hx ⟨as,hal,rfl,R,o,rfl⟩;have hi:i<?rN:=?jS
     have hxv:x=?e (?v6):=by
      ext zU
     subst hxv
     have hmem:?v6∈?l2:=by
      rw[qa3,?jV];exact qe0 hi
     obtain⟨q0,q1,q2⟩:=Ef hmem;generalize hpe:?v6=pl at q0 q1 q2;have Bc3:Iz [] [(Sum.inl pl,?Y 1)]=cK ?fJ:=rfl;have sG:=?bN ?cC;refine⟨_,rfl,_,rfl,fun e he=>⟨_,rfl,Ab,[(Sum.inl pl,?Y 1)],rfl,?bU,?_⟩⟩;rw[Bc3]
     have e3:upd (upd G e ?g9) e (?OX ?fJ)=?qX:=by
      funext b
      by_cases hb:b=e
      . subst hb;rw[Ab,Ab]
      . rw[Ai hb,Ai hb,Ai hb]
     rw[e3];have g1:?h G (?qX):=?B he;have he1:(?qX) e=?TE ?fJ:=Ab;generalize ?qX=G1 at g1 he1
     have wY:?IU<=4:=by
      rcases Jp (l:=xs) (i:=pl.toNat) (d:=[]) with z | z
      . exact ?wR
      . rw[z];exact ?aQ
     have Z1:Ov xs k ?fJ=true:=by
      unfold Ov M8;rw[List.all_cons,List.all_nil,Bool.and_true,qc4];refine⟨?_,?bU⟩;show(?a6 (0<=pl)&&?a6 (pl<?oM)&&?a6 (C6 ?IU=k))=true;rw[qf9 q0,qf9 q1,qf9 q2];rfl
     have hk3:k<4:=by
      rw[←q2];unfold C6;split<;>omega
     refine⟨a,e,xs,?fJ,rfl,?H (?uP g1) vC,he1,?bU,h4,⟨k.toNat,O9m,by rw[?CU];exact Z1⟩,fun E2 G2 hE2 g2 Bh0=>?_⟩;refine⟨B,E2,?jG,Dh xs ?fJ,rfl,?OQ ((?uP g1).trans g2) hB,?m Bh0,bl,fun D2 G3 Mw g3 FZ=>?_⟩;have gG:=?QV ?kO g3;refine⟨gG _ _ R.at,?iJ,?CT,?BI,?m3,?r1 ((?kO).free Mw) gG ?_,_,rfl⟩;rw[FZ,US,hal,hpe]
     congr 3
     apply bB;intro i' _;exact f9 xs pl _
   . rintro ys τ G ⟨as,hal,rfl,R,_⟩;rw[qa4]at hal;exact ?OM ⟨D,as,rfl,hal,R.earlier s2⟩
 refine vX fun C as H2 hal R=>?_;intro sq;refine⟨_,rfl,_,rfl,B,_,rfl,?m (?OQ ?cC hB),?f C,?rN,?r5,_,by rw[qa4];rfl,R.rep hal,cl,bl,fun D jN H3 zQ R3=>?_⟩;exact kq D jN H3 zQ (R3.earlier (?d9 ?cC))
noncomputable abbrev Pw:Stmt:=E8 ?lF 2
theorem Ke:?T0 [?aC,"height","by_rows","by_columns"] Pw:=Bj
theorem CK[?x](F:E4 K ?u4 ?JQ Pw f fd)[?w](Ug:Has P w K mg ?d ?n8 ?u6 7 (?OU Wp))[?lN]:?TD 8 eU:=by
 refine ?P4 Ke;obtain⟨H0,p,L,R,nm,n,w,M,l,r,ns,Nx,rfl,x,ok,k⟩:=h;obtain⟨sQ,sP⟩:=x.sm;ext zR;ext zX
 ext t0
 obtain⟨ta,us,rfl,hq,Xl,_⟩:=Id hrep;obtain⟨J1,T1,j10,j1t,j1n⟩:=ok.ex;have Aq0:=?v0
 replace hq:=?FR
 refine⟨_,(Ae (?SY Ke.nd ?kK)
  (Ae (?P7 Ke.nd (?T5 Ug (Aa ?W (Aa ?W ?gF))))
  (Ae (?P2 Ke.nd (?T5 Ug (Aa (An C7 hr (Aa ?eJ ?gF)) (Aa ?l ?gF))))
  (Ae (?P3 (?T5 C7 (Aa (?WM ?q Am) ?V)))
  (Ae (?P3 ?eJ)
  (Ah (?P3 (?TG ?q)))))))),?_⟩
 ext F
 refine ?OJ (?TH [?y,?u5,none,none] ?bD)
 . refine⟨_,rfl,p,Aj,dx,fs,_,rfl,hp,?G,?eH,l1,ta,us,rfl,?h7,?OM ⟨by rw[Xl];rfl,rfl⟩⟩
 ext bQ;refine ?OJ (fun σ' H'=>xQ fun(tp D L' r1' XE:Addr) ?wJ ?wT ?tP=>gY (σ'=[?y,?u5,?aV,none]) ?bG (J1 n t s) (Ed K H' tp ?L4) (TA H' D as n w s.1) (?U5 L' ?xY) (?U2 L') (?U2 r1') (?U2 XE))
 . refine⟨_,rfl,p,Aj,dx,fs,_,rfl,hp,?G,?eH,l1,_,rfl,p,Aj,dx,fs,_,rfl,hp,?G,?rG,l2,_,rfl,p,Aj,dx,fs,_,rfl,hp,?G,?fI,l3,?iR,L,r1,b1,?j,_,n,w,M,l.1,l.2,J1,rfl,Aq0,lx,sQ,sP,T1,j10,j1t,fun tp D L' r' b' as t s H1 s1 hJ hT xD lx1 _ fL fr fb=>?_⟩;exact ?OM ⟨tp,D,L',r',b',as,t,s,rfl,s1,hJ,hT,xD,lx1,fL,fr,fb⟩
 refine vV fun tp D L' r1' XE as t s H1 s1 hJ hT xD lx1 fL fr fb=>?_;intro sq;obtain⟨J2,T2,j20,j2t,j2n⟩:=j1n t s hJ;have hp1:=?kD;refine ?OJ (fun σ' H'=>xQ fun(xZ D2 R' r2' SV:Addr) (jN:?qR) (t2:?IH) (s2:?eE)=>gY (σ'=[?y,?u5,?aV,rS xZ]) (?UE H1) (J2 w t2 s2) (Ed K H' xZ [?eW,?f R']) (TA H' D2 jN w n s2.1) (LX H' Ag R' r2' SV ?j w w (fun x a=>s2.1 x (n+a),s2.2) ?s8) (H1 R'=none) (H1 r2'=none) (H1 SV=none))
 . refine⟨_,rfl,tp,_,_,_,rfl,rfl,hT,rfl,_,rfl,p,Aj,dx,fs,_,rfl,hp1,?G,?rG,l2,?f D,n,w,s.1,rfl,xD.rep,O9m,O9m,fun F fas H2 hl2 R2=>?_⟩;have hp2:=?fG _ _ hp1;refine⟨_,rfl,_,rfl,p,Aj,dx,fs,_,rfl,hp2,?G,?hB,l4,?f F,R,r2,b2,?j,_,w,n,(fun i j=>s.1 j i),r.1,r.2,J2,rfl,R2.rep hl2,ly.keep (?d9 ?fG),sP,sQ,T2,j20,j2t,fun xZ D2 R' r' b' jN t2 s2 H3 s3 hJ2 hT2 xD2 zA _ fR VD fb2=>?_⟩;exact ?OM ⟨xZ,D2,R',r',b',jN,t2,s2,rfl,?sE s3,hJ2,hT2,xD2,zA,?nD fR,?nD VD,?nD fb2⟩
 refine vV fun xZ D2 R' r2' SV jN t2 s2 H3 s3 hJ2 hT2 xD2 zA fR VD fb2=>?_;intro sq;have hp3:=?Q8 hp1;have hT3:=?tH hT;refine⟨_,rfl,xZ,_,_,_,rfl,rfl,hT2,rfl,_,rfl,?eW,w,n,s2.1,rfl,xD2.rep,O9m,O9m,fun E eas H4 wY R4=>?_⟩;have TR:=R4.same;have Q2:=TR _ _ hp3;have oX:?GP:=((x.same.trans s1).trans s3).trans TR;have n4:=(?d9 ?CV) _ _ x.nu;have A64:Rep K (Ue H4 ?M7) (?f E) (dT n w fun i j=>s2.1 j i):=R4.hid wY fun a ha z=>by cases ha;rw[(?v5) _ _ x.nu]at z;cases z
 have hT4:=TR.seqT hT3;have Bf4:=TR.seqT hT2
 have ex:∀a,?E7->H4 a≠none:=fun a ha=>by
  ext AA
  . rw[n4];ext lT
  . obtain⟨_,z,_⟩:=zA.rw;exact ?LF
  . obtain⟨_,z,_⟩:=zA.bk;exact ?LF
 have z1:LX H4 Ag L' r1' XE ?j n n ?xY (fun a=>?E7):=lx1.more ?CV (fun a ha=>by
  ext AA
  . exact ?m (?bZ)
  . exact ?s VD
  . exact ?s fb2) ex
 have z2:=zA.keep TR;have uN:p≠L':=Ao hp fL;have wJ:p≠R':=Ao hp1 fR;have LR:L'≠R':=fun z=>by obtain⟨_,_,q,_⟩:=lx1.ob;rw[z,fR]at q;cases q
 refine(?PX fs ?eH);have yE:?bL p H4 (?yJ):=?gN;have fY:upd H4 p (?QH E) p=?c (?QH E):=Ab;have kp5:Kp H4 (?yJ):=Kp.upd;have e1:?FJ=fs.length:=M3 l1;generalize ?yJ=H5 at yE fY kp5;have hT5:=jY hT4 Q2 yE;have Bf3:=jY Bf4 Q2 yE;refine⟨_,rfl,tp,_,_,_,rfl,rfl,hT5,rfl,_,rfl,p,Aj,dx,_,rfl,fY,?G,?fI,O9m,?_⟩;have e2:?AZ=?FJ:=M3 (x:=?f L) (by ext sR;exact l3);have EM:?bL p H5 (?uO):=?gN;have hp6:upd H5 p (?L Aj dx (?P5 E)) p=?U9 Aj (?P5 E):=Ab;have kp6:Kp H5 (?uO):=Kp.upd;generalize ?uO=H6 at EM hp6 kp6;refine⟨_,rfl,xZ,_,_,_,rfl,rfl,jY Bf3 fY EM,rfl,_,rfl,p,Aj,dx,_,rfl,hp6,?G,?hB,O9m,?_⟩;have e3:(?I ?iK (?b6 R') (?J7)).length=?AZ:=M3 (x:=?f R) (by ext N7;exact l4);have sx:?bL p H4 (?U6 p):=?cY (yE.trans EM);have kp:Kp H4 (?U6 p):=(kp5.trans kp6).trans ?c7;have g0:∀a,?hV->?rJ:=?R7 x.same.free;have g1:∀a,?KN->?rJ:=?R7 ?xE;have npn:nm≠p:=Fh x.nu hp ?i5
 refine k L' R' _ _ _ _ (j2n t2 s2 hJ2) ⟨⟨?f E,dx,_,Ab,?_,?_,?_,?_,?_,?h8,O9m,fun M' e=>by
  cases e
  exact Bi9 (p:=p) (dx:=dx) (C:=Aj) A64 (by rw[Z3 ?M6];exact Q2) (fun a o ne e=>by
   by_cases z:a=nm
   . rw[MU z]at e;cases e
   . rw[Z3 z]at e ⊢;exact sx _ _ ne e)⟩,⟨r1',XE,r2',SV,z1.x Q2 uN sx kp,z2.x Q2 wJ sx kp,g0 _ fr,g0 _ fb,g1 _ VD,g1 _ fb2⟩,sx _ _ npn n4,sx.same oX x.fr.1,⟨x.fr.1,g0 _ fL,g1 _ fR,?GO⟩,?JO,⟨sQ,sP⟩⟩
 . ext aF
 . ext aF
 . ext aF
 . ext aF
 . ext aF
 . iterate 3 ext NC
   exact l6 m hm
noncomputable abbrev Hx:Stmt:=E8 ?lF 1
theorem Kw:?T0 ?kT Hx:=Bj
theorem S0[?x](F:E4 K ?yE ?CE Hx f fd)[?w](Lw:Kl P w K mg ?d Aj ?u4 ?c6 8 (?OU eU))(Op:Has P w K mg ?d ?AQ [?a3] 1 (O7 K)):?TD 9 Po:=by
 refine ?P4 Kw;obtain⟨H0,p,L,R,nm,n,w,M,l,r,U,rfl,x,ok,nx,k⟩:=h;have sm:=x.sm;obtain⟨_,dx,fs,hp,_,_,_,_,_,l6,_⟩:=x.ob
 refine⟨_,(Ae (?RW ?i Lw)
  (Ae (Tx qb5 (?VE Op ?gF) (Ah (?RW ?i Lw)))
  (Ah (B8 qb5 rfl (?P8 (?VB (Bf (NR ?g) T.n_min nV (Aa ?kK ?gF)))) (?T3 1 Kw.nd) (?WF (?VC ?cM ?l) (?OP ?W (?VC ?cM ?l))))))),?_⟩
 ext F
 refine ?OJ (fun σ' H'=>?m7/\∃L R m M l r,?tD/\?J0)
 . exact⟨_,rfl,p,dx,fs,rfl,hp,?GC,H0,p,L,R,nm,n,w,M,l,r,[],_,rfl,x,ok,fun L' R' M' l' r' H' ⟨m,hu⟩ y=>?OM ⟨rfl,L',R',m,M',l',r',hu,y⟩⟩
 refine Ii fun H1 EG=>?_;intro sq;obtain⟨L,R,m,M,l,r,hU,x⟩:=EG;clear ok hp l6;refine ?OJ (fun σ' H'=>?m7/\∃L R m M l r,?tD/\Lat.Straight n w M/\?J0)
 . refine⟨fun m σ' G=>?m7/\∃L R M l r,?tD/\?TM G,⟨m,rfl,L,R,M,l,r,hU,x⟩,?_⟩;rintro m σ G C0;refine UT ?_;intro _;obtain⟨rfl,L,R,M,l,r,hU,x⟩:=C0;ext zR
   ext t0
   refine⟨_,rfl,p,Aj,dx,fs,_,rfl,hp,?G,?eH,l1,tv,n,w,M,rfl,?v0,O9m,O9m,?AN,?AN⟩
   . ext e2;exact ?OM ⟨rfl,L,R,m,M,l,r,hU,hS,?BN⟩
   . refine ?SI (?bU);refine⟨fun σ' G'=>?m7/\∃L R m' M l r,m'<m/\U m' M l r/\?TM G',?_,?_⟩
     . rintro σ' G' ⟨rfl,L,R,m',M,l,r,hm,hU,y⟩;exact⟨m',hm,rfl,L,R,M,l,r,hU,y⟩
     . exact⟨_,rfl,p,dx,fs,rfl,?kD,?GC,H0,p,L,R,nm,n,w,M,l,r,[],_,rfl,?BN,nx m M l r hU hS,fun L' R' M' l' r' H' ⟨m',hm,hu⟩ y=>⟨rfl,L',R',m',M',l',r',hm,hu,y⟩⟩
 ext A8;obtain⟨L,R,m,M,l,r,hU,hS,x⟩:=EG;ext zR
 ext t0
 obtain⟨ta,us,rfl,hq,Xl,On⟩:=Id hrep
 replace hq:=?FR
 have emin:?DV=min n w:=?yZ
 refine⟨_,rfl,p,Aj,dx,fs,_,rfl,hp,?G,?eH,l1,ta,us,rfl,?h7,_,rfl,p,Aj,dx,fs,_,rfl,hp,?G,?rG,l2,_,_,rfl,_,rfl,?yZ,?yZ,?_⟩;refine Cn (lo:=0) (n:=?DV) (fun i σ' G=>Em fun o1=>σ'=?D9/\WX K Ag Aj H0 G p L R nm n w ?oD l r (OB i M)) ?FO ?_ ?_
 . clear hp hrep hq On l1 l2 l3 l4 l5 l6 l7;rintro i σ G hi ⟨o1,rfl,y⟩;rw[emin]at hi;rw[ql6];obtain⟨tv,dx,fs,hp,l1,l2,l3,l4,l5,l6,l7,hrep⟩:=y.ob
   ext t0
   obtain⟨ta,us,rfl,hq,Xl,On⟩:=Id (?v0);have e:=qa0 (l:=us) (i:=i) O9m;obtain⟨_,b,eb,hb⟩:=On i _ e;rw[eb]at e;refine⟨_,rfl,p,Aj,dx,fs,_,rfl,hp,?G,?eH,l1,_,rfl,ta,_,_,_,rfl,rfl,hq,Bm e,_,rfl,b,_,_,_,rfl,rfl,hb,?m8,rfl,_,rfl,?_⟩;ext aT
   . have h0:¬M i i=0:=?S
     refine⟨_,rfl,p,Aj,dx,fs,_,rfl,hp,?G,?eL,l5,?P0 y.nu,_,rfl,p,Aj,dx,fs,_,rfl,hp,?G,?eH,l1,_,rfl,ta,_,_,_,rfl,rfl,hq,Bm e,_,rfl,b,_,_,_,rfl,rfl,hb,?m8,nm,_,_,rfl,rfl,y.nu,?_,?_⟩
     . have:=UL i M;exact ?iJ
     . have z:=y.num (ns':=OB ?aW M);rw[Qc,?U h0,qb4]at z;exact⟨_,rfl,by rw[Qc,?U h0];exact z⟩
   . have h0:M i i=0:=?S
     exact⟨_,rfl,by rw[Qc,?aB h0];exact y⟩
 . ext aG;ext AE;rw[emin]at y;exact k L R m M l r _ hU hS y
noncomputable abbrev So:Stmt:=top 62
theorem Lm:?v [?a3,?b1,"work","left_back",?iK] ?fK (Au So):=Bj
theorem fM[?x](F:E4 K ?n7 ?n7 So f fd)[?w](dF:gX P w K mg ?d Aj ?mM 3 (?OU EU))(Ia:Kl P w K mg ?d Aj ?yE ?c6 9 (?OU Po))(Gn:Kl P w K mg ?d Aj ?uG ?c6 5 (?OU aV))[?lN](Vy:Has P w K mg ?d ?o7 ?p2 3 (Wm K)):Bw P w K mg ?d Ex 10 f fd ?fK (Tt K):=by
 refine ?P4 Lm;obtain⟨v,n,w,A,Fin,rfl,hv,hn,hw,hP,k⟩:=h;obtain⟨ta,us,rfl,hq,Xl,_⟩:=?jR;obtain⟨U,Y,a1,a2,a3,a4,a5⟩:=hP.ex
 refine⟨_,(Ae (?PL Vy ?c3)
  (Ae (?P7 Lm.nd (M6 dF hr ?g T.m_Work ?c3))
  (Ae (?RW ?o Ia)
  (Ae (?RW ?o Gn)
  (Ae (Av (i:=3) Lm.nd (?T5 C7 (Aa ?mW ?pO)))
  (Ae (?PM Lm.nd (?T5 C7 (Aa ?mW ?V)))
  (?V8 (Fc (Aa (?P1 Bd ?o) (Aa ?mW (Aa ?q (?OL ?E ?mW)))))))))))),?_⟩
 ext F
 refine qx4 (t:=?tU) (?TH [?dG,?cN,none,none,none] ?hI) ?k ?_
 . refine⟨_,rfl,_,rfl,?iR,n,w,A,rfl,hv,hn,O9m,?JD⟩;ext e2;exact ?wE
 ext A7;refine ?OJ (fun σ' H'=>Th fun p L R nm=>?TQ ?y/\WX K Ag Aj H1 H' p L R nm n w (?c A) ?dO ?dO [])
 . refine⟨_,rfl,_,rfl,?_⟩;intro p dx np WJ yR;have sN:?h H1 (?RQ H1 Aj):=?mC np;exact⟨H1,p,dx,?iR,n,w,A,rfl,sN,np,Ab,?H s1 hv,O9m,hw,fun L R nm H' y=>⟨rfl,?OM ⟨p,L,R,nm,rfl,y⟩⟩⟩
 refine Ah8 fun p L R nm H2 x=>?_;intro sq;refine ?OJ (fun σ' H'=>Ex6 fun L R k f l r=>D6 (?TQ ?y) (k<=n) (k<=w) (Y k 0 f l r) (WX K Ag Aj H1 H' p L R nm n w ?j l r (Jq k f)))
 . ext lM;refine⟨_,rfl,p,jA,iW,rfl,hpa,?E8,H1,p,L,R,nm,n,w,A,_,_,U,rfl,x,a1,a2,fun L' R' m M l r H' hU hS y=>?_⟩;obtain⟨k,f,e,k1,k2,hY⟩:=a3 m M l r hU hS;rw[e]at y;exact ?OM ⟨L',R',k,f,l,r,rfl,k1,k2,hY,y.drop⟩
 refine Ah3 fun L R kk f l r H3 k1 k2 hY x=>?_;intro sq;refine ?OJ (fun σ' H'=>Nv fun f l r=>B4 (?TQ ?y) (Fin kk f l r) (?HY kk kk f) (WX K Ag Aj H1 H' p L R nm n w ?j l r (Jq kk f)))
 . ext lM;refine⟨_,rfl,p,jA,iW,rfl,hpa,?E8,H1,p,L,R,nm,n,w,kk,l,r,f,Y kk,rfl,x,k1,k2,hY,a4 kk,fun d f' l' r' H' hY' hC y=>?_⟩;exact ?OM ⟨f',l',r',rfl,a5 _ _ _ _ _ hY',hC,y⟩
 refine oJ fun f l r H4 hF hC x=>?_;intro sq;ext lM;ext zX;obtain⟨dl,fl,hL,e1,e2,_⟩:=lx.ob;obtain⟨dr,fr,hR,e3,e4,_⟩:=ly.ob;obtain⟨xF,xa1,_⟩:=lx.rw;obtain⟨bs1,xb1,_⟩:=lx.bk;obtain⟨jN,xa2,_⟩:=ly.rw;obtain⟨bs2,sY,_⟩:=ly.bk;have kD:=x.same;refine⟨_,rfl,p,Aj,jA,iW,_,rfl,hpa,?G,?fI,ZC,L,Ag,dl,fl,_,rfl,hL,?d4,?s0,e2,_,rfl,ta,us,rfl,?m ((?z8).seq hq),?f b1,n,n,l.2,(by rw[Xl]<;>rfl),xb1.rep,O9m,O9m,fun D1 c1 H5 hc1 R1=>?_⟩;have wC:=R1.same;refine⟨_,rfl,p,Aj,jA,iW,_,rfl,(wC _ _ hpa),?G,?hB,l4a,R,Ag,dr,fr,_,rfl,(wC _ _ hR),?d4,?nJ,e3,_,rfl,?f r2,w,w,r.1,rfl,(xa2.same wC).rep,O9m,O9m,fun D2 c2 H6 hc2 R2=>?_⟩;have s46:=wC.trans ?fG;refine⟨_,rfl,p,Aj,jA,iW,_,rfl,(s46 _ _ hpa),?G,?eL,wW,_,rfl,p,Aj,jA,iW,_,rfl,(s46 _ _ hpa),?G,?fI,ZC,L,Ag,dl,fl,_,rfl,(s46 _ _ hL),?d4,?nJ,e1,_,rfl,_,rfl,_,rfl,p,Aj,jA,iW,_,rfl,(s46 _ _ hpa),?G,?hB,l4a,R,Ag,dr,fr,_,rfl,(s46 _ _ hR),?d4,?s0,e4,?aJ,?L5⟩;have s67:?h H6 (upd H6 tp (?A [?f nm,?f r1,?e7,?eW,?f b2])):=?B htp;have YH:=s46.trans s67;have oW:=?QV ?z8 YH;have g1:∀a,?KN->?hV:=?R7 ?gK;refine k tp nm r1 D1 D2 b2 kk f l r _ hF hC k1 k2 ⟨oW,?bK,?HN,(xa1.same YH).rep,(R1.later ?FM).rep hc1,(R2.later s67).rep hc2,(?v4 YH).rep,?bY⟩;rcases ha with rfl | rfl | rfl | rfl | rfl
 . exact⟨g1 _ ?GO,_,?HN,?yO⟩
 . exact⟨g1 _ f1,_,YH _ _ xa1.2.1,by rw[qa4,xa1.1];omega⟩
 . exact⟨g1 _ (kD.free ?nV),_,?FM _ _ R1.at,by rw[qa4,hc1];omega⟩
 . exact⟨g1 _ (kD.free (wC.free ?nI)),_,s67 _ _ R2.at,by rw[qa4,hc2];omega⟩
 . exact⟨g1 _ f4,_,YH _ _ sY.2.1,by rw[qa4,sY.1];omega⟩
noncomputable abbrev Sr:Stmt:=top 66
theorem Dv:?v [?a0,?iA,?vY,?vT,"k",?b1,?h0,?mF] [?a0] (Au Sr):=Bj
theorem FN[?x](F:E4 K ?nB ?nB Sr f fd)[?w][?OI](V1:Has P w K mg ?d ?n7 ?fK 10 (Tt K))[?sJ][?NI](Vw:Has P w K mg ?d ?rE ?wN 4 (Wk K))[?lN](Mm:Has P w K mg ?d ?nY ?gC 8 (O5 K)):Bw P w K mg ?d Ex 11 f fd [?a0] (Wo K):=by
 refine ?P4 Dv;obtain⟨a,xs,rfl,hL,hs,E3,kq⟩:=h;ext sT
 have h4:∀x∈xs,x.length<=4:=fun x hx=>by
  obtain⟨i,hi⟩:=qg0 hx;rcases (hs i x hi).cnt with e | e | e | e<;>omega
 have pl:∀k,?hG<=40:=fun k=>?z4
 refine⟨_,(Ae (?SY ?dS ?d0)
  (Ae (?W3 2 (Aa (An Bt hr (Aa ?i ?f5)) Af))
  (Ae (?W3 3 ?aU)
  (Ae (B8 qb5 rfl (?P8 (?VB (?WC 4 Ld))) (?PR ?dS) (Ae (?WE ?dS (?WO (?VB (?T5 Bt (?OL ?i (?VZ ?E))))))
  (Ae (?WN ?dS (?T5 V1 (Aa (An K9 hr (Aa ?q (Aa (An Mm hr (?OL ?i (?VZ ?E))) ?dX))) ?dX)))
  (Ae (?OP ?l (?T5 Vw (?WK ?E (Aa ?aA (Aa ?o ?f7)))))
  (Ae (Av (i:=7) ?dS (?OR (?VB (?TG ?aA))))
  (Ae (?P7 ?dS (Fo ?iB (?T5 C7 (Aa (?WM ?aA Am) ?dX)) ?IC Hy))
  (Ah (?P2 ?dS (Fo ?iB (?TG ?aA) ?IC Hy)))))))))
  (?V8 ?l))))),?_⟩
 ext F
 refine ?OJ (fun σ' H'=>Em fun ?b8=>B4 (?TV none none) ?bG ?j5 ?G7)
 . ext N4
 refine O0 fun D H1 s1 nD hD=>?_;intro sq;refine ?OJ (fun σ' H'=>Em fun ?DQ=>B4 (?TV ?N none) (?UE H1) (la≠D) (?UP ?yX))
 . refine⟨_,rfl,a,0,xs,rfl,?eC,O9m,?J8⟩;ext A0;exact⟨?g4,rfl,?IP,fun la at_ H3 hal R3=>?OM ⟨la,rfl,?bN ?kH,?BF,KZ (R3.rep hal)⟩⟩
 refine O0 fun la H2 s2 nlD hla=>?_;intro sq;refine ?OJ (fun σ' H'=>Em fun(ga:Addr)=>B4 (?TV ?N ?aZ) ?qD (ga≠D) (?UP ?qA))
 . obtain⟨_,lu,ez,hlq,zN,_⟩:=Id hla;cases ez;ext O6;exact⟨?g4,rfl,?IP,fun ga at_ H3 hal R3=>?OM ⟨ga,rfl,?kH,?BF,KZ (R3.rep hal)⟩⟩
 refine O0 fun ga H3 s3 ngD hga=>?_;intro sq;have s13:=?QV ?eD s3;refine ?OJ (fun σ' H'=>xR K H a D xs 4 σ' H')
 . refine ?H3;refine Cn (lo:=0) (n:=4) (fun k σ G'=>xR K H a D xs k σ G') ?_ ?_ ?_
   . refine⟨[],[],la,ga,?g4,?fM,?fM,_,_,_,_,rfl,s13,(?hN) _ _ hD,rfl,Nn.first xs,?JX,nlD,ngD,?H s3 hla,hga,?_,qa1 _,one_bits _ _,one_bits _ _⟩
     have e0:Do xs (?LJ-1)=0:=by
      show(Dy xs (0-1)).length=0;rw[TZ];rfl
     rw[e0];exact Lat.Lev.first _ _
   . rintro k σ G' hk C0
     ext Q
     obtain⟨us,ls,la,ga,z,L,G,o4,o5,o6,o7,rfl,g,D7,hll,Z1,hB,nla,nga,rla,rga,lev,hzm,bL,bG⟩:=C0;rw[show ?d3+?aX=?aX by omega];have Cc2:=pl ?aX;have Ca6:=pl (?dF)
     have hzw:z+?cZ<=40:=by
      have:=PD (xs:=xs) (show ?aX≠?dF by omega);omega
     have usl:?Q3 k:=hB.1.trans hll;have ekk:?dF-1=?aX:=O9m
     have iU:=?CN;refine ?OJ (fun σ' H'=>?TY o6/\?UE G')
     . refine⟨_,rfl,_,rfl,_,_,rfl,rfl,a,?dF,xs,rfl,iU,O9m,?J8⟩;ext A0;exact ?OM (?UU s2)
     ext sS;have tw:=QH hs ?aX;have told:=lev.told tw;obtain⟨pv,st⟩:=lev.st;have plan:=NV st told (fun q c _ _=>tG h4 _ q c) hzw;refine ?OJ (fun σ' H'=>NZ fun(tp nm r1 D1 D2 b2:Addr) (k0:Nat) (f:?iC) (l r:?eE)=>D6 (?TY ?aV) (?kF) (?UC f) (JQ D nm r1 D1 D2 b2) (?TX SO ?aX))
     . refine⟨_,rfl,_,rfl,_,rfl,_,_,rfl,rfl,a,xs,?dF,rfl,?H (?eY) hL,O9m,h4,O9m,O9m,fun T as G2 hal R2=>?_⟩;rw[ekk]at hal;have rT:Rep K G2 (?f T) (dT (?tT) (?cZ) (?z0)):=R2.rep hal;refine⟨_,rfl,?qA,?f T,z,?tT,?cZ,G,?z0,rfl,?H (?jD ?fG) rga,rT,O9m,O9m,O9m,fun i j c hi hj hc=>Rs (bG i j hi hj) (HH h4 _ j c) (by unfold bookF;decide),fun T2 jN G3 zQ R3=>?_⟩;refine⟨_,rfl,?f T2,z,?cZ,Lat.gT (?tT) G (?z0),_,rfl,R3.rep zQ,O9m,O9m,plan,fun tp nm r1 D1 D2 b2 k0 f l r G4 hF hC k1 k2 x=>?_⟩;exact ?OM ⟨tp,nm,r1,D1,D2,b2,k0,f,l,r,rfl,(?sE ?kH).trans ?gX,x.r,x.ne (((?jD ?fG).trans ?kH) _ _ D7),⟨lev,hF,hC,k1,k2,bL,bG,hzm⟩⟩
     refine xW fun tp nm r1 D1 D2 b2 k0 f l r G2 g2 x xn bl=>?_;ext AB;refine ?OJ (fun σ' H'=>Em fun(us':?dU)=>D6 (?TY ?aV) ?bG (?b4=?TA us') (Gd D H' us' (ls++[?TX Cg ?aX])) (?UC f))
     . refine⟨_,rfl,?P0 (?GK),_,rfl,_,rfl,_,rfl,_,rfl,_,rfl,a,tp,nm,r1,D1,D2,b2,?yX,?qA,xs,?aX,z,k0,_,L,G,f,l,r,rfl,?H (?pJ) hL,E3,rfl,?H EF rla,?H EF rga,x,O9m,bl.kz,bl.kw,fun i hi=>by have:=bl.fin.dg.pos i hi;omega,bl.fin.bl.1,bl.fin.bl.2,bL,bG,fun E eu G3 nE g3 hE rE=>?_⟩;have xA:=EF.trans g3;refine(?PI D ?tQ);have nED:E≠D:=fun q=>by rw[q,?GK]at nE;cases nE
       refine ?OM ⟨us++[?f E],rfl,?UX xA nD,Ab,?_,?_⟩
       . exact(hB.same xA).snoc (?tQ) nED hE rE
       . exact(?gX g3).put xn (?tQ) hB.refs
     refine VX fun us' G3 g3 ZT hB3 x3=>?_;intro sq;refine ?OJ (fun σ' H'=>σ'=[?n,?C,?N,?aZ,?cH,?jP,?aV,?T4 ?qK]/\G3=H')
     . refine⟨_,rfl,tp,_,_,_,rfl,rfl,?uE,rfl,nm,_,rfl,?m x3.num,?_⟩;rw[Bu];ext cQ
     ext e1;have hkw:=bl.kw;refine ?OJ (fun σ' H'=>Em fun(la2:Addr)=>B4 (σ'=[?n,?C,rS la2,?aZ,?cH,?jP,?aV,?T4 ?qK]) (?UE G3) (la2≠D) (?UO la2 (dT (?cZ-k0) (?cZ) ?D1)))
     . refine⟨_,rfl,tp,_,_,_,rfl,rfl,?uE,rfl,_,rfl,?eW,_,_,_,rfl,x3.right,O9m,O9m,fun F as G4 hal R4=>?_⟩;refine⟨_,rfl,_,rfl,F,_,rfl,.of R4.at,?mB⟩;have ec:J9 ?i9 (?c ?qK) ?j=(as.drop k0).map ?b6:=by rw[Qp,qp8]
       rw[ec];have R5:=R4.drop (k:=k0) hC rfl;refine ?OM ⟨C,rfl,R5.same,(Ao (?zD _ _ ZT) hC).symm,?_⟩;exact R5.rep (by rw[qj0,hal])
     refine O0 fun la2 G4 g4 A75 A63=>?_;intro sq;have x4:=x3.same g4;obtain⟨_,bu,ez,hbq,Be3,Ar3⟩:=Id x4.rback;cases ez;refine⟨_,rfl,tp,_,_,_,rfl,rfl,?vJ,rfl,_,rfl,_,rfl,b2,bu,rfl,hbq,?mB⟩;rw[Qp];have g5:=?B (o:=?p (bu.drop k0)) hC;refine⟨us',ls++[?TX Cg ?aX],la2,C,?cZ-k0,(?D1),(fun i=>r.2 (k0+i)),_,_,_,_,rfl,(?yK g4).trans g5,(g4.trans g5) _ _ ZT,by rw[qc3,hll];rfl,Z1.snoc bl,hB3.same (g4.trans g5),A75,(Ao (g4 _ _ ZT) hC).symm,?_,?_,?_,?_,?_,?_⟩
     . ext lO;exact ?H g5 A63
     . ext lO;refine VG (us:=bu) (fun i u e=>?_) Be3 (?bK);obtain⟨h1,b,eb,hb⟩:=Ar3 i u e;exact⟨h1,b,eb,g5.seq hb⟩
     . obtain⟨pl',lo⟩:=bl.fin.lo;have:=lev.next tw bl.fin.dg bl.fin.il bl.fin.ir lo;rw[?DW,ekk];exact this
     . ext lO;omega
     . ext lO;exact fun i c hi hc=>bl.fin.br.1 _ _ O9m hc
     . ext lO;exact fun i c hi hc=>bl.fin.br.2 _ _ O9m hc
   . rintro σ G' h;exact ?OM h
 rintro _ H4 ⟨us,ls,la',ga',z,L,G,o4,o5,o6,o7,rfl,g,D7,hll,Z1,hB,_⟩;exact⟨_,rfl,kq D us ls H4 nD g D7 hll ⟨_,_,_,Z1⟩ hB.out⟩
noncomputable abbrev Md:Stmt:=E8 ?HG 0
theorem Ps:?v [?aC,?cD,?vI] ?x1 (Au Md):=Bj
theorem Zf[?x](F:E4 K ?c8 ?BO Md f fd)[?w](V2:Has P w K mg ?d ?nB [?a0] 11 (Wo K))(Vx:Has P w K mg ?d ?qE ?tG 3 (Wl K))(Vz:Has P w K mg ?d ?qN ?i0 6 (Tl K))(I0:Has P w K mg ?d ?r3 ?kX 1 (Kr K)):Bw P w K mg ?d Ex 12 f fd ?x1 ?AM:=by
 refine ?P4 Ps;obtain⟨p,dx,a,us,H0,xs,rfl,hp,ha,r,s0,n0a,n0p,hs,E3,k⟩:=h;have hL:LT K H ?l0 xs:=⟨a,us,rfl,.of ha,?aD s0 r⟩
 have nap:a≠p:=fun z=>by rw[z,hp]at ha;cases ha
 refine⟨_,(Ae (?PL Vz ?V)
  (Ae (?P3 (?TI ?V))
  (Ae (?P7 Ps.nd (?T5 V2 ?gF))
  (Ae (E7 (K:=K) ?i (Cd (N':=?kX) (cap:=?i1) ?g ?X (?P1 Ce ?o) (?OK (?T3 0 yV)) ?a7 (?OK (?T5 I0 ?aI))))
  (Ah (?P3 (?T5 Vx (Aa ?W ?aU)))))))),?_⟩
 ext F
 refine ?OJ (?TH [?y,?n,none] ?hI)
 . refine⟨_,rfl,?fV,xs,rfl,hL,hs,E3,?JD⟩;exact Ih ?b0 (?wE)
 ext A7;refine ?OJ (fun σ' H'=>Em fun ?HF=>Hq (σ'=[?y,?n,none]) (?K9) (H' P=?hS) (P≠p) (P≠a) (H' p=?U9 Aw [?yU]))
 . refine⟨_,rfl,a,us,rfl,?m (?OQ s1 ha),fun P hP=>?_⟩;have s2:=?d9 (?B (o:=?p us) hP);have nPp:P≠p:=(Ao (?kD) hP).symm;refine⟨_,rfl,p,Aw,dx,[],rfl,?Q4 hp,?d5,?y3,?bU,?_⟩;exact ?OM ⟨P,rfl,?V4 s2,by rw[Ai nPp];exact Ab,nPp,(Ao (?V0 ha) hP).symm,?yQ⟩
 refine Ai2 fun P H2 sx2 hP2 nPp nPa hp2=>?_;intro sq;have oB:=?J1 s0 n0p;have ha2:=sx2 _ _ nap ha;refine ?OJ (fun σ' H'=>Nv fun ?b8 ?vQ ?GH=>Lk (σ'=[?y,?n,?C]) ?qD (?b4=?yR) (D≠p) (Oz H' bu ls) (ls.length=4) (∃z L G,Nn xs 4 ls z L G))
 . refine⟨_,rfl,p,Aw,dx,_,_,rfl,hp2,?d5,?y3,rfl,P,xs,rfl,(?R9 hP2 oB),hs,E3,fun D bu ls H3 nD s3 hD wY Z1 hB=>?_⟩;exact ?OM ⟨D,bu,ls,rfl,s3,hD,(Ao hp2 nD).symm,hB,wY,Z1⟩
 refine Ah9 fun D bu ls H3 s3 hD nDp hB wY Ap9=>?_;intro sq;have Z1:=let ⟨_,_,_,t⟩:=Ap9;Nn.lev t
 have hp3:=?Q8 hp2;have ha3:=?Q8 ha2;have h0:=hB.1;refine ?OJ (fun σ' H'=>Ju fun(Lv:Addr) ?hY=>EE (σ'=[?y,?n,?C]) (?C9) (H' Lv=?fR) (Lv≠p) (Lv≠a) (Oz H' ws ?m5) ((∀v∈ws,v≠?fV)) (H' p=?U9 Aw ?vG))
 . refine⟨_,rfl,D,rfl,?DL,fun Lv WY=>?_⟩;have nLp:Lv≠p:=(Ao hp3 WY).symm;have nLa:Lv≠a:=(Ao ha3 WY).symm
   let Bk1:?a4:=fun i ws τ G=>D6 (?h H3 G) (G Lv=?fR) (Gd Lv G ws ((ls.take i).map Rc)) ((∀v∈ws,v≠?fV)) ?i3
   refine Cw (K:=K) (a:=D) (xs:=bu) Bk1
    ⟨?B WY,Ab,?JX,(fun v hv=>by cases hv),?j,rfl⟩ (fun i ws τ G _ hz=>by ext t6;exact ?OQ g hD) ?_ ?_
   . rintro i v ws τ G hv C0;ext t1;intro g iU hW hna o Ei;ext gS;ext NJ
     ext O1;have hpl:=(Z1 i ps hps).len E3
     have wl:ws.length<=i:=by
      have:=hW.1;rw[qa4,qc8]at this;omega
     refine⟨_,rfl,pa,pu,ps,rfl,?E2,rP.same g,O9m,fun E eu G2 nE g2 hE rE=>?_⟩;have nEL:E≠Lv:=(Ao iU nE).symm;refine⟨?J2,?aS,?UX g2 WY,Ab,?_,fun v hv=>?_,_,rfl⟩
     . rw[qe7,hps,qb4];exact(hW.same g2).snoc (?J2) nEL hE rE
     . rcases ql3.mp hv with hv | hv
       . exact hna v hv
       . rw[qk1]at hv;subst hv
         exact fun z=>by
          cases z;rw[g _ _ ha3]at nE;cases nE
   . rintro ws τ G ⟨g,iU,hW,hna,_⟩;rw[h0,qd0]at hW;refine(?RZ ?tR ?B8);refine ?OM ⟨Lv,ws,rfl,?V4 g,by rw[Ai nLp];exact iU,nLp,nLa,?HI,hna,?yQ⟩;obtain⟨E,eu,rfl,_,hE,rE⟩:=?F4;refine⟨E,eu,rfl,?_,B6.kd (fun c o e ho=>?_) rE⟩
     . ext j2
       . exact hE
       . rw[z,?tR]at hE;cases hE
     . ext j2
       . exact e
       . rw[z,?tR]at e;cases e;ext A2
 refine Ai1 fun Lv ws H4 wB WY nLp nLa hW hna Q2=>?_;intro sq;have oX:=wB.same (?y7 s3) n0p;have hP4:=wB _ _ nPp (?Q8 hP2);have eF:=wB _ _ nDp hD;have ha4:=wB _ _ nap ha3;have kd4:∀c o,H3 c=?cO->(∀C d f,o≠?L C d f)->H4 c=?cO:=fun c o e h=>wB _ _ (fun z=>by rw[z,hp3]at e;cases e;exact h _ _ _ rfl) e
 have hB4:Oz H4 bu ls:=⟨h0,fun i v ps e1 e2=>by
  obtain⟨E,eu,rfl,hE,rE⟩:=hB.2 i v ps e1 e2;exact⟨E,eu,rfl,kd4 _ _ hE fun _ _ _ z=>(by cases z),B6.kd (fun c o e ho=>kd4 c o e fun _ _ _ z=>by rcases ho with⟨_,q⟩|⟨_,q⟩<;>rw[q]at z<;>cases z) rE⟩⟩
 refine⟨_,rfl,p,Aw,dx,_,_,rfl,Q2,?d5,?y3,rfl,_,rfl,P,D,xs,bu,ls,rfl,(?R9 hP4 oX),E3,eF,hB4,fun ps hps=>?_,fun Lf wu H5 nLf s5 hLf dd=>?_⟩
 . obtain⟨i,hi⟩:=qg0 hps;exact(Z1 i ps hi).ok E3
 have nfp:Lf≠p:=(Ao Q2 nLf).symm;have nfa:Lf≠a:=(Ao ha4 nLf).symm;have fY:=s5 _ _ Q2;refine(?RZ fY T.na_Book_lifts);have hp6:upd H5 p (?SS Lf) p=?U9 Aw [?yU,?H2,(?l3,?f Lf)]:=?yQ
 have EM:?bL p H5 (?FG):=?gN;generalize ?FG=H6 at hp6 EM;have ha6:=?SX nap ha4;have s06:=EM.same ?LY n0p;have sB:=qT s06 n0a
 have kd6:∀c o,H5 c=?cO->((∃l,o=?A l)\/∃l,o=.dK l)->mW H6 a c=?cO:=fun c o e ho=>by
  have ncp:c≠p:=fun z=>by rw[z,fY]at e;cases e;ext A2
  have e6:=EM c o ncp e;rw[Lx ?o8]
  . exact e6
  . rw[z,ha6]at e6;cases e6;ext A2
 refine k (mW H6 a) ls H6 (((sx2.trans (?e4 s3)).trans wB).trans ((?e4 s5).trans EM)) ⟨⟨dx,P,Lv,Lf,ws,wu,?_,(?R9 ?_ sB),?_,?HI,?_,dd.1,fun i v e=>?_⟩,hs,E3,wY,Z1,Ap9⟩ sB MV KR
 . rw[Lx nap.symm];exact hp6
 . rw[Lx nPa];exact ?SX nPp hP4
 . rw[Lx nLa];exact ?SX nLp WY
 . obtain⟨E,eu,rfl,hE,rE⟩:=?F4;have hE5:=s5 _ _ hE;have nEp:E≠p:=fun z=>by rw[z,fY]at hE5;cases hE5
   have nEa:E≠a:=fun z=>hna _ (qb0 e1) (by rw[z]);exact⟨E,eu,rfl,by rw[Lx nEa];exact EM _ _ nEp hE5,B6.kd kd6 (rE.same s5)⟩
 . rw[Lx nfa];exact EM _ _ nfp hLf
 . obtain⟨c,e1,_,e2⟩:=dd.2 i v e;exact⟨c,e1,rfl,kd6 _ _ e2 (?s ?bT)⟩
noncomputable abbrev Tw:Stmt:=top 88
theorem L4:?v [?gW,?dT,?LG,?kG,?jL,?yI,?f6,"_law_lift",?tS] ?qU (Au Tw):=Bj
theorem yP[?x](F:E4 K ?fP ?fP Tw f fd)[?w](Ql:Has P w K mg ?d ?p4 ?w2 3 (Rp K))(DF:gX P w K mg ?d Aw ?x1 12 ?AM)(S7:Has P w K mg ?d ?rM ?r4 1 (Tr K))(Oo:Kl P w K mg ?d Aw ?uF ?r7 4 ?EP)(Jr:Kl P w K mg ?d Aw "lift" [?aC,?cF] 1 (eV K Aw))(Os:Has P w K mg ?d ?nQ ?x9 3 (Tm K))[?MV](J8:Has P w K mg ?d ?nU ?xV 3 (aT K))[?zW]:?S3 P f:=by
 refine ?P4 L4;obtain⟨a,ns,rfl,hS,hl,Bw4,kq⟩:=h;ext cR
 refine⟨_,(Ae (?SY ?dH (?T5 Ql (Aa (An S7 hr (Aa ?i ?f5)) (Aa (Fo ?iB ?i ?tB ?tB) ?f5))))
  (Ae (?P7 ?dH (M6 DF hr ?g T.m_Book (?VB (?TI ?V))))
  (Ae (cF (N':=[?jL,?LG]) (cap:=?GD) (i:=3) ?dH ?g (by ext A1) ?g ?X (?P8 ?f5) (?OK (?T3 0 YR)) ?a7 (?OK (C5 ?l ?d5 Oo hr ?aI)))
  (Ae (B8 qb5 rfl (?P8 ?f5) (?PR ?dH) (Ah (?WD Ez (Ek (?T5 Os (Aa ?l (?OL ?E (?VC ?q ?E))))))))
  (Ae (?WE ?dH ?d0)
  (Ae (B8 qb5 rfl (?WB ?V) (?T3 6 ?dH) (Ae (?RL 7)
  (Ae (?WD Ez (Ek (?T5 Fi (Aa ?l (Aa (?VZ (An Ib hr (?VB (Ba ?O ?l ?aA ?z)))) ?j9)))))
  (Ah (?OP ?aL (?TR ?j9))))))
  (Ae (B8 qb5 rfl (?WB ?V) (?T3 6 ?dH) (Ae (B7 (Be ?qJ (?T5 J8 (?W4 ?aA (Aa ?q ?dX))) (?VY ?aA) ?t) ?a9 Bl)
  (Ae (?RL 8)
  (Ae (?QY ?c4)
  (Ae (Tz ?aY ?c4 Am Am ?g)
  (Ah (?QY (C5 ?o ?d5 Jr hr ?i7))))))))
  ?a9))))))),?_⟩
 ext F
 refine ?OJ (fun σ' H'=>Nv fun(p1:Addr) ?wA (xs:Aq)=>D6 (?TN none none) (H' p1=?hS) (?bH K H' us (xs.map tI)) (Ck xs) (xs.length<=40))
 . refine⟨_,rfl,a,ns,0,rfl,hS,?K,hl,_,rfl,_,rfl,_,rfl,a,_,rfl,hS,?mB⟩;have sC:?RB C (?p (J9 (?m1) (?f0) (?c 41))):=?B hC;have hcl:=rK ns (?f0) (?c 41);refine⟨C,RK ns (?f0) (?c 41),_,24,rfl,?_,O9m,?K,?K,fun p1 us1 H1 zs hp1 s1 Bc2 r1 hsh hzl=>?_⟩
   . rw[←RJ];exact ?bK
   . exact ?OM ⟨p1,us1,zs,rfl,Bc2,r1,hsh,O9m⟩
 refine Ai0 fun p1 us xs H1 hp1 r hs E3=>?_;intro sq;have h4:=AW hs;refine ?OJ (fun σ' H'=>Nv fun(p:Addr) (B:Hp) ?GH=>B4 (?TN ?y none) (eE K Aw B p xs ls) (?h H1 B) (?UE B))
 . refine⟨_,rfl,p1,us,rfl,?m (.of hp1),fun C nC=>?_⟩;have s2:?h H1 (?IZ):=?B nC;have hC:upd H1 C ?oI C=?hS:=Ab;generalize ?IZ=H2 at s2 hC ⊢;intro p dx np WJ yR;have s3:?h H2 (?RQ H2 Aw):=?mC np;refine⟨p,dx,C,us,H1,xs,rfl,Ab,?Q8 hC,r,?hN,nC,?hK np,hs,E3,fun B ls H4 sx bk s1B sBH nB=>?l6⟩;exact ?OM ⟨p,B,ls,rfl,bk,s1B,sBH⟩
 refine oJ fun p B ls H4 bk s1B sBH=>?_;intro sq;have hLB:LT K B (?i4) xs:=⟨p1,us,rfl,?OQ s1B hp1,?aD s1B r⟩
 obtain⟨dx,P,Lv,Lf,lu,wu,hp,_⟩:=bk.ob;have usl:?FN:=?mO
 obtain⟨z_,L_,G_,zs,ks,Ls,Gs,fs,lp,rp,ti,_⟩:=bk.tie;have n4:=bk.n4;refine ?OJ (fun σ' H'=>Em fun(hd:Addr)=>E5 (?TN ?y ?aN) (?UE B) (Lz (fun _=>none) H' hd ?m5))
 . refine(?PZ _ ?iO)
   let Bk0:?a4:=fun i ys τ G=>D6 (?h B G) (G E=?e3) (oF G E ys ((?x0).take i)) (i<=4) (?P6 [o,?y])
   refine Hn Bk0
    ⟨sBH.trans (?mJ),Ab,⟨rfl,fun j v ps e=>?kW⟩,?K,_,rfl⟩ ?_ ?_
   . rintro i ys τ G hi C0;ext t1;intro g SR hN hi4 o Ei;ext sN;have hi:i<4:=hi
     have hyl:?qS:=by
      have:=hN.1;rw[qc8,qa4]at this;omega
     refine⟨_,rfl,p,dx,_,rfl,g _ _ hp,rfl,_,rfl,p,?P,B,xs,ls,rfl,bk,g,O9m,O9m,fun ps' D us' G1 Aq3 nD g1 hD rP=>?_⟩
     have hps:?T2 ?m5 (Rc ps'):=by
      rw[qa9];rw[qe3]at Aq3;rw[Aq3];rfl
     have nDE:D≠E:=fun z=>by rw[z,SR]at nD;cases nD
     have hE1:=?CM;refine⟨hE1,?aS,?EH (sBH.free hE),Ab,?_,O9m,_,rfl⟩;rw[qe7,hps];exact((hN.same g1).snoc nDE hD rP.out).put hE1
   . rintro ys τ G ⟨g,SR,hN,_⟩;rw[qi1 (by rw[qa4,n4];exact qa1 4)]at hN;exact ?OM ⟨E,rfl,g,hN.at SR⟩
 refine Ti fun hd H5 s5 hH=>?_;intro sq;refine ?OJ (fun σ' H'=>Em fun o4=>σ'=?AL/\?xG)
 . refine ?H3
   let Bj9:?aO:=fun i σ G=>Em fun o4=>σ=?AL/\?h H5 G
   refine Cn (lo:=0) (n:=4) Bj9 ⟨_,rfl,?fW H5⟩ ?_ ?_
   . ext t7
     ext Q
     revert σ;ext sX;ext sN;have hi:i<4:=hi;obtain⟨qs,D,uk,ps,hu,hat,hD,rP,hps,_⟩:=(?qY g).at (j:=i) (by ext fB)
     rw[qa9]at hps;obtain⟨ps0,Bc0,rfl⟩:=?h2 hps;have hok:=(bk.lev i ps0 Bc0).holes E3;refine⟨_,rfl,_,rfl,_,rfl,_,rfl,hd,qs,_,_,rfl,rfl,?y9,?zG,p1,D,xs,?P,uk,_,_,rfl,?H (?FZ g) hLB,hD,rP,hok,?K5⟩;ext dB;exact(?RE _ ?eY)
   . ext aG;ext sX;exact ?OM ⟨o4,rfl,g⟩
 refine vY fun o4 H6 s6=>?_;intro sq;have hH6:=?qY s6;have sB6:=?FZ s6;have lvs:∀i:Nat,?qF->∃k,JP xs ?m5 ?o9 ?P k:=fun i hi=>jL hs ti E3 O9m O9m;have lfl:(?f2).length=xs.length:=Vq _ _;refine ?OJ (fun σ' H'=>Em fun ?DQ=>B4 (σ'=(?UW ?N)) (H6 la=none) (?UE H6) (H' la=?wK))
 . exact⟨?aQ,?z3⟩
 refine O0 fun la H7 nla s7 Bd2=>?_;intro sq;refine ?OJ (fun σ' H'=>Nv fun ?wL ?xN=>B4 (σ'=?LD) (?UE H6) (H' la=?e3) (Fk (fun _=>none) H' ys ?o9))
 . obtain⟨ON,IS,Ba9⟩:=?lI (?H (?v2 s7) hLB);ext NR
   let Bj8:?aO:=fun i σ G=>Nv fun ?wL ?xN=>B4 (σ=?LD) (?h H6 G) (G la=?e3) (Fk (fun _=>none) G ys ((?f2).take i))
   refine Cn (lo:=0) (n:=?DD) Bj8 ⟨[],_,_,rfl,s7,Bd2,rfl,fun j v e=>?kW⟩ ?_ ?_
   . ext t7
     ext Q
     ext iX;intro ys o6 o7 g qS dd Ei;ext sN;have hix:?qF:=O9m
     obtain⟨k,pc⟩:=?KK
     have hyl:?qS:=by
      have:=dd.1;ext t5
     have gB:=?v2 g;refine ?OJ (fun σ' H'=>Em fun ?b8=>B4 (σ'=(?VH ?C none)) (?kN) (?CS) (?T8 (?VP i)))
     . refine⟨_,rfl,p,dx,_,rfl,gB _ _ hp,rfl,_,rfl,p,?P,B,xs,ls,rfl,bk,gB,O9m,O9m,fun D G1 nD g1 hD=>?_⟩;rw[qe3]at hD;exact ?OM ⟨D,rfl,g1,nD,hD⟩
     refine O0 fun D G1 g1 nD hD=>?_;intro sq;have vC:=?H (gB.trans g1) hLB;refine ?OJ (?TH (?VH ?C none) ?kF)
     . obtain⟨us3,v3,Ba8,Be9,tv3⟩:=?hT vC (i:=?P) O9m O9m;refine⟨_,rfl,_,rfl,_,rfl,p1,us3,_,_,rfl,rfl,Ba8,Be9,v3,?GY,rfl,?s tv3,_,_,rfl,rfl,_,rfl,?_⟩;rw[?SC ?GY ?HW,pc.lv];refine⟨p1,D,xs,?dF,_,rfl,vC,hD,pc.lfr,?zF⟩;ext dB;exact ?OM (?UU g2)
     refine Ii fun G2 g2=>?_;ext AB;have UZ:=EF _ _ qS;refine⟨_,rfl,?P0 UZ,_,rfl,D,_,rfl,?RX g2 hD,?mB⟩;have g3:=?B (o:=?OX (?VP i)) hC;have nC:C≠la:=fun z=>by rw[z,UZ]at hC;cases hC
     refine(?PI la ?IJ);refine⟨_,_,_,rfl,(?QV ?pJ g3).turn nla,Ab,?_⟩;have hnx:?T2 ?o9 (?VP i):=by rw[qa3,?vD];rfl
     rw[qe7,hnx];refine Fk.snoc (((?qT EF).same g3).keep fun c kvs _ e=>by rw[Ai fun z=>by rw[z,?IJ]at e;cases e];exact e) rfl ?_;rw[Ai nC];exact Ab
   . ext aG;refine Wu ?_;intro ys o6 o7 g qS dd Ei;rw[qi1 ?iF]at dd;exact ?OM ⟨ys,o6,o7,rfl,g,qS,dd⟩
 refine oJ fun ys o6 o7 H8 s8 ZN dd=>?_;intro sq;have hH8:=hH6.same s8;have sB8:=?v2 s8;refine ?OJ (fun σ' H'=>True)
 . obtain⟨ON,IS,Ba9⟩:=?lI (?H sB8 hLB);ext NR
   let Bj7:?aO:=fun i σ G=>Ju fun(o6 o8:?bW)=>σ=[?n,?cL,?y,?aN,o4,?N,o6,o7,o8]/\?h H8 G
   refine Cn (lo:=0) (n:=?DD) Bj7 ⟨_,_,rfl,?fW H8⟩ ?_ ?_
   . ext t7
     ext Q
     revert σ;refine ?qM;intro o6 o8 g Ei;ext sN;have hix:?qF:=O9m
     obtain⟨k,pc⟩:=?KK;have gB:=sB8.trans g;have Zr:=?yD ?P;rw[qe3]at Zr;obtain⟨v0,hv0⟩:∃v,ys[i]?=?b7:=⟨_,qa0 (by have:=dd.1;omega)⟩
     obtain⟨c0,rfl,_,hc0⟩:=dd.2 _ v0 hv0;refine ?OJ (?TH (?VH o7 o8) ?kN)
     . refine⟨_,rfl,_,rfl,_,rfl,_,rfl,p1,hd,la,?P,xs,k,?x0,?f2,ys,_,_,rfl,?H gB hLB,hs,E3,h4,by rw[qa4];exact n4,hH8.same g,g _ _ ZN,?qT g,pc,fun D G1 m nD g1 hD hm hg=>?PU ?P⟩;have sZ:?h G1 (?UV G1 ?P):=?K6
       have e1:sameC m [(?P,1)]=true:=AX ?iD (qg9.mpr ⟨qf0,qr5⟩) hm.z (fun q hq=>by rw[?JU];exact(?K:(1:Int)≠0)) fun q=>by
        rw[hg,Ep,Nh];by_cases z:q=?P
        . rw[?aB z,?aB z.symm]
        . rw[?U z,?U fun y=>z y.symm]
       refine⟨D,Z,m,[(?P,1)],rfl,rfl,?RX sZ hD,?m Ab,_,rfl,?_⟩;refine ?QK (by rw[e1];decide);exact ?OM ⟨rfl,?jD sZ⟩
     ext sS;have gg1:=?eY;have gB1:=gB.trans g1;refine ?OJ (fun σ' H'=>Em fun ?b8=>B4 (?wO) (?kF) (G1 D=none) (?T8 (?VP i)))
     . refine⟨_,rfl,p,dx,_,rfl,gB1 _ _ hp,rfl,_,rfl,p,?P,B,xs,ls,rfl,bk,gB1,O9m,O9m,fun D G2 nD g2 hD=>?_⟩;rw[qe3]at hD;exact ?OM ⟨D,rfl,g2,nD,hD⟩
     refine O0 fun D G2 g2 nD hD=>?_;intro sq;have gg2:=?L7 g2;refine ?OJ (fun σ' H'=>?wO/\G2=H')
     . refine⟨_,rfl,_,rfl,_,rfl,la,ys,_,_,rfl,rfl,?OQ gg2 ZN,?w1,D,c0,_,_,rfl,rfl,?m hD,?RX gg2 hc0,_,rfl,?_⟩;refine ?M3;ext cQ
     ext e1;refine ?OJ (fun σ' H'=>?wO/\?kF)
     . refine⟨_,rfl,D,_,rfl,Uj hD (by have:=Zr.len;omega),?_⟩;exact ?OM ⟨rfl,g2.turn nD⟩
     refine Ii fun G3 g3=>?_;intro sq;have gg3:=?L7 g3;refine⟨_,rfl,p,dx,_,rfl,(gB1.trans g3) _ _ hp,rfl,_,rfl,p,?P,B,xs,ls,rfl,bk,gB1.trans g3,O9m,O9m,fun D2 G4 nD2 g4 Mw=>?_⟩;rw[qe3]at Mw;have gg4:=gg3.trans g4;refine⟨_,rfl,_,rfl,la,ys,_,_,rfl,rfl,?OQ gg4 ZN,?w1,D2,c0,_,_,rfl,rfl,?wD,?RX gg4 hc0,_,rfl,?_⟩;refine ?M3;exact⟨_,_,rfl,gg4⟩
   . ext aG;refine ?qM;intro o6 o8 g Ei;exact ?OM ?yP
 rintro _ H9 _;exact kq H9
universe e9
theorem Ik[?lS](h:∀a0,P [a0])[?lW](hl:?Q3 1):P us:=by
 cases us with
 | nil=>ext bB
 | cons a0 u0 =>
   cases u0 with
   | nil=>exact h a0
   | cons _ _=>simp at hl
theorem Ev[?lS](h:∀a0 a1,P [a0,a1])[?lW](hl:?Q3 2):P us:=by
 cases us with
 | nil=>ext bB
 | cons a0 u0 =>
   cases u0 with
   | nil=>ext bB
   | cons a1 u1 =>
     cases u1 with
     | nil=>exact h a0 a1
     | cons _ _=>simp at hl
theorem Gf[?lS](h:∀a0 a1 a2,P [a0,a1,a2])[?lW](hl:?Q3 3):P us:=by
 cases us with
 | nil=>ext bB
 | cons a0 u0 =>
   cases u0 with
   | nil=>ext bB
   | cons a1 u1 =>
     cases u1 with
     | nil=>ext bB
     | cons a2 u2 =>
       cases u2 with
       | nil=>exact h a0 a1 a2
       | cons _ _=>simp at hl
theorem rA[?lS](h:∀a0 a1 a2 a3,P [a0,a1,a2,a3])[?lW](hl:?Q3 4):P us:=by
 cases us with
 | nil=>ext bB
 | cons a0 u0 =>
   cases u0 with
   | nil=>ext bB
   | cons a1 u1 =>
     cases u1 with
     | nil=>ext bB
     | cons a2 u2 =>
       cases u2 with
       | nil=>ext bB
       | cons a3 u3 =>
         cases u3 with
         | nil=>exact h a0 a1 a2 a3
         | cons _ _=>simp at hl
theorem QZ[?lS](h:∀a0 a1 a2 a3 a4,P [a0,a1,a2,a3,a4])[?lW](hl:?Q3 5):P us:=by
 cases us with
 | nil=>ext bB
 | cons a0 u0 =>
   cases u0 with
   | nil=>ext bB
   | cons a1 u1 =>
     cases u1 with
     | nil=>ext bB
     | cons a2 u2 =>
       cases u2 with
       | nil=>ext bB
       | cons a3 u3 =>
         cases u3 with
         | nil=>ext bB
         | cons a4 u4 =>
           cases u4 with
           | nil=>exact h a0 a1 a2 a3 a4
           | cons _ _=>simp at hl
set_option maxHeartbeats 4000000 in
noncomputable abbrev nS(K:W.Frag)(s:Str)(a:Addr):Prop:=?KD=?c (?c ?l0)
noncomputable abbrev nN9(K:W.Frag)(s:Str):Prop:=?KD=?bO
noncomputable abbrev kO(K:W.Frag)(a b:Addr)(v:Bool):Prop:=PySem.W.kitOne K ?l0 (?qI)=?b7
theorem all_mk{l:PySem.W.OpenLaw}{w:World}{K:W.Frag}{h:Heap}{mg:?v3}{fa:Addr}{Ag:Addr}
 {Ac:Addr}
 {Aj:Addr}
 {Aw:Addr}
 {Gu:Addr}{Zg i6:OAddr}{Yo:R7}{Zh Zy b6 Y2 Qr c7:Value}
 {Ic:Addr}{z7 aL:OAddr}{r6:R7}{z8 AB AD w9 Rx aI:Value}
 {Js:Addr}{cO EB:OAddr}{CA:R7}{CO DA DO CG Ut DT:Value}
 {zZ:Addr}{Am7 XF:OAddr}{Ak3:R7}{Am8 WW XC WG RO XD:Value}
 {Wj:Tok}
 {Pj:Tok}
 {Rm:Tok}
 {DJ:Addr}{uQ:Nat}{oR:R7}{LW lW LV lV LU:Tok}
 {Lc:Addr}{Zm:Nat}{Xb:R7}{U7 U6 U5 U4:Tok}
 (X:K.In h) (G:?LB) (hfa:mg ?fP=?QP fa)
 (RT:nS K "Lines" Ag)
 (nY:nS K "Stairs" Ac)
 (VO:nS K "Work" Aj)
 (VP:nS K "Book" Aw)
 (jD:?Q5 ?KJ Sk)
 (V7:?Q5 ?IK Iq)
 (JC:?Q5 ?MF Sj)
 (AE:?Q5 ?G8 L6)
 (RG:?Q5 ?E5 Yw)
 (VF:?Q5 "times" cD)
 (V9:?Q5 ?GR Iu)
 (rF:?Q5 ?JT Yu)
 (nJ:?Q5 ?KC Ve)
 (vG:?Q5 "mixed" CD)
 (dP:?Q5 ?GE N1)
 (rH:?Q5 ?L2 Yx)
 (aM:?a2 K ?dM ?c8=?c (?c ?pC))
 (Z0:?PT ?xJ ?pC)
 (aB:?hD Gu=?c ⟨Zh,Zg,?q3 (?rK ?c8 ?IQ (Ji Fb) (G6 Fb) (Au Fb) ?qG Zy b6 Y2 i6 Qr c7),Yo⟩)
 (aK:?pX K Qr ?IQ=true)
 (Rt:?PT ?eQ ?pC)
 (jB:?Q5 ?FD Sg)
 (aE:?Q5 ?AQ L5)
 (GK:S3 K Aw "lift" "Book.lift" P0)
 (Up:?Q5 ?r3 Hv)
 (NL:?Q5 ?qZ Vh)
 (NN:?Q5 ?mR Vi)
 (Rj:?Q5 ?n0 Gm)
 (GJ:?Q5 ?oP Py)
 (gK:?Q5 ?rM Pz)
 (dR:?Q5 ?sA N5)
 (gJ:?Q5 ?rT Px)
 (V8:?Q5 ?s6 Ir)
 (Aa2:?Q5 ?oO HZ)
 (Uq:?Q5 ?mQ Hw)
 (Rg:?Q5 ?pY Gi)
 (NK:?Q5 ?p3 Vg)
 (Aa3:?Q5 ?oF iA)
 (DP:?Q5 ?rB N2)
 (gI:?Q5 ?rP Pt)
 (RD:?Q5 ?nK Yt)
 (EC:?a2 K ?dM ?e8=?c (?QP Ic))
 (Ru:?PT ?xJ (?f Ic))
 (cZ:?hD Ic=?c ⟨z8,z7,?q3 (?rK ?e8 ?vP (Ji Fq) (G6 Fq) (Au Fq) ?qG AB AD w9 aL Rx aI),r6⟩)
 (dY:?pX K Rx ?vP=true)
 (Om:?PT ?eQ (?f Ic))
 (Xp:S3 K Ac ?c8 ?AT J0)
 (DR:?Q5 ?n4 N6)
 (aH:?Q5 ?s5 Mc)
 (RH:?Q5 ?rY Yy)
 (c6:?Q5 ?p0 Kz)
 (Rf:?Q5 ?nG Gh)
 (aF:?Q5 ?mS L7)
 (JD:?Q5 ?o7 Sl)
 (NI:?Q5 ?oZ Vd)
 (jG:?Q5 ?nX Sq)
 (gS:?a2 K ?dM ?c5=?c (?QP Js))
 (Uc:?PT ?xJ (?f Js))
 (FW:?hD Js=?c ⟨CO,cO,?q3 (?rK ?c5 ?wY (Ji F6) (G6 F6) (Au F6) ?qG DA DO CG EB Ut DT),CA⟩)
 (GP:?pX K Ut ?wY=true)
 (Qi:?PT ?eQ (?f Js))
 (AF:S3 K Aj ?c8 ?KE L8)
 (jC:?Q5 ?qE Si)
 (AG:?Q5 ?nQ Mb)
 (Wa:?Q5 ?nU Iv)
 (DQ:?Q5 ?p4 N4)
 (Aa5:?Q5 ?oA IA)
 (NJ:?Q5 ?rU Vf)
 (Ri:S3 K Ac ?xW ?C8 Gk)
 (dQ:S3 K Aj ?xT ?FV N3)
 (JB:?Q5 ?rE Sh)
 (dS:S3 K Aw ?uF ?KO N7)
 (JE:?Q5 ?nA Sn)
 (b8:?Q5 ?oR Kx)
 (aG:S3 K Ac ?tZ ?K7 Ma)
 (Xn:S3 K Ac ?v1 ?H4 Jy)
 (Rh:S3 K Aj ?uG ?EZ Gj)
 (Mo:?Q5 ?r2 Ey)
 (jE:?Q5 ?qN Sm)
 (Xo:S3 K Ac ?zE ?ML Jz)
 (rG:?Q5 ?s2 Yv)
 (nH:?Q5 ?n8 Vc)
 (c5:?Q5 ?nY Ky)
 (GI:S3 K Aj ?u4 ?JQ Pw)
 (Ur:S3 K Aj ?yE ?CE Hx)
 (jF:?Q5 ?n7 So)
 (JG:?Q5 ?nB Sr)
 (AH:S3 K Aw ?c8 ?BO Md)
 (Bj5:nS K ?fP zZ)
 (A93:?hD zZ=?c ⟨Am8,Am7,?q3 (?CI),Ak3⟩)
 (Bj0:?pX K RO ?fP=true)
 (A99:?PT ?eQ (?f zZ))
 (j6:?a2 K ?fE ?e8=?c (?QP Ic))
 (AL:?a2 K ?fE ?c5=?c (?QP Js))
 (mR:PySem.W.readsIn K Ag (.type "type")=true)
 (MS:PySem.W.findCls K ?dM (.type "type") ?c8=?c (.val ?pC))
 (mS:PySem.W.specialIn K ?dM "__getattribute__"=?c (?c (?H5 "type.__getattribute__")))
 (QC:?PT ?oU Ag)
 (qM:?PT ?eQ ?dM)
 (ML:?PT ?oU Ac)
 (MQ:?PT ?eQ ?fE)
 (UR:?PT ?oU Aj)
 (uW:?PT ?eQ ?g7)
 (uS:?PT ?oU Aw)
 (UW:?PT ?eQ ?jO)
 (pI:?RC Ag)
 (qU:?PT ?o3 Ag)
 (pC:?PT ?oG Ag)
 (OW:?RN ?dM)
 (qx5:?PN ?dM ?cW)
 (qx6:?PN ?dM ?gD)
 (mF:?RC Ac)
 (MW:?PT ?o3 Ac)
 (mE:?PT ?oG Ac)
 (MB:?RN ?fE)
 (qx7:?PN ?fE ?cW)
 (qx8:?PN ?fE ?gD)
 (qx9:?PN ?fE "starts")
 (UC:?RC Aj)
 (vB:?PT ?o3 Aj)
 (TY:?PT ?oG Aj)
 (TQ:?RN ?g7)
 (qy0:?PN ?g7 ?a3)
 (qy1:?PN ?g7 ?b1)
 (qy2:?PN ?g7 ?eK)
 (qy3:?PN ?g7 ?iK)
 (qy4:?PN ?g7 ?hH)
 (uD:?RC Aw)
 (VB:?PT ?o3 Aw)
 (tZ:?PT ?oG Aw)
 (tR:?RN ?jO)
 (qy5:?PN ?jO ?gV)
 (qy6:?PN ?jO ?BQ)
 (qy7:?PN ?jO ?l3)
 (vP:nS K "GAPS" DJ)
 (uV:?hD DJ=?c ⟨.type ?jW,?j,.seq #[?e 32 LW,?e 16 lW,?e 8 LV,?e 4 lV,?e 2 LU] uQ,oR⟩)
 (j5:nS K "FACE_COUNTS" Lc)
 (Zt:?hD Lc=?c ⟨.type ?jW,?j,.seq #[?e 0 U7,?e 2 U6,?e 3 U5,?e 4 U4] Zm,Xb⟩)
 (EA:?SA "MOST_ROWS" (?e 40 Wj))
 (NX:?SA "LEVELS" (?e 4 Pj))
 (i5:?SA "MOST_PIECES" (?e 40 Rm))
 (bX:?S7 "isinstance")
 (Ag8:?S7 "int")
 (xV:?S7 ?zA)
 (SW:?S7 ?jW)
 (Ag4:?S7 "zip")
 (Ag6:?S7 "max")
 (Ag7:?S7 "len")
 (Ah0:?S7 "all")
 (sX:?S7 "range")
 (XU:?S7 "dict")
 (Ag9:?S7 "any")
 (xU:?S7 ?hJ)
 (EH:?S7 "enumerate")
 (Ag5:?S7 "min") :
 ∃fd:FuncData,(∀(s:Shared) (v:Value),BindsTo s fd ⟨[v],[]⟩ [(?gW,v)])/\∀base:Heap,K.In ?d->?K8->?S3 ?d8 fa:=by
 have e:=hfa.symm.trans (?R0 Bj5);cases e;have T:?HT:=⟨?R0 RT,⟨pI,qU,pC,OW⟩,qx5,qx6,?R0 nY,⟨mF,MW,mE,MB⟩,qx7,qx8,qx9,?R0 VO,⟨UC,vB,TY,TQ⟩,qy0,qy1,qy2,qy3,qy4,?R0 VP,⟨uD,VB,tZ,tR⟩,qy5,qy6,qy7,⟨DJ,?R0 vP,fun H=>?s ⟨_,_,_,uV,rfl,rfl,rfl,(?S9 5),?k8 ?bT (?CB)⟩⟩,⟨Lc,?R0 j5,fun H=>?s ⟨_,_,_,Zt,rfl,rfl,rfl,(?S9 4),?CB⟩⟩,⟨_,?R0 EA⟩,⟨_,?R0 NX⟩,⟨_,?R0 i5⟩,?Q7 bX,?Q7 Ag8,?Q7 xV,?Q7 SW,?Q7 Ag4,?Q7 Ag6,?Q7 Ag7,?Q7 Ah0,?Q7 sX,?Q7 XU,?Q7 Ag9,?Q7 xU,?Q7 EH,?Q7 Ag5⟩
 have Jk:=DI (st:=Fb) aB aK Rt;have Km:=DI (st:=Fq) cZ dY Om;have L1:=DI (st:=F6) FW GP Qi;have Bo4:=DI (st:=Tw) A93 Bj0 A99;refine⟨?CI,fun s v=>.of_eq rfl,fun base _ _=>?_⟩;have uu:=@Bs ?d8 w K mg ?d h X G;have uv:=@Jh ?d8 w K mg ?d;have Ga:=?TC jD fJ;have G0:=?TK V7 T4;have F9:=?TC JC FI;have Oq:=?TK AE Y9;have Q3:=?U7 RG (?OY MH);have IT:=?TK VF pP;have J7:=?TC V9 T6;have DH:=?TK rF MG;have Z5:=?TK nJ ID;have Ja:=?TU vG (?OY pQ);have Qj:=?TK dP y3;have X2:=?TC rH MI;have Z4:?US ?d8:=⟨_,_,⟨mR,MS,mS,Rt⟩,?L8,O9 Jk T⟩
 have K8:?SW ?d8:=⟨_,_,⟨QC,aM,Z0,qM⟩,?L8,O9 Jk T⟩
 have Nf:=?TC jB FG;have Op:=?TC aE Y8;have Jr:=uv GK (?OY CN) ?R;have I0:=?TC Up Sy;have La:=?TC NL iF;have Ib:=?TC NN IF;have Da:=?TC Rj Qb;have S6:=?TK GJ CM;have S7:=?TK gK cN;have Hk:=?TK dR y8;have S5:=?U7 gJ (?OY cL);have Eo:=?VS V8 (?OW T5 Ga);have qV:=?VS Aa2 (?OW UI Q3);have Bt:=?VS Uq (?OW Sz F9);have Hf:=?VS Rg (?OW P7 Ga);have C7:=?VS NK (?OW IE DH);have Rv:=uu Aa3 (?OW uJ Z5) ?aH;have Qk:=?U7 DP (?OW y4 Ja);have S4:=?U7 gI (?OW CJ Q3);have Uf:=?VS RD (?OW mG Ja);have Mj:?PO ?d8 Ag:=(?V5 EC)
 have J6:?PO ?d8 Ac:=(?V5 j6)
 have Vv:=dH ML MQ (P:=l.prog) (w:=w) (base:=base) Xp (?OW Vn Z4) ?a8;have Fi:=?U7 DR (fun F=>y9 F T La Ib);have Kk:=?VS aH (?OW Ze Da);have Uh:=?U7 RH (?OW mJ Da);have Mn:=?U7 c6 (?OW Xh Hk);have C9:=?U7 Rf (fun F=>P6 F T Eo F9);have Gb:=?VS aF (?OW Za Eo);have Vy:=?VS JD (?OW FJ Hf);have K9:=?U7 NI (?OW IC Qk);have Ng:=?U7 jG (?OW fN Bt);have Kj:?PP ?d8 Ag:=(?SU gS)
 have Cv:?PP ?d8 Ac:=(?SU AL)
 have dF:=dH UR uW (P:=l.prog) (w:=w) (base:=base) AF (fun F=>Zb F T K8 Rv) ?a8;have Vx:=?VS jC (fun F=>FH F T qV IT);have Os:=?U7 AG (fun F=>Zd F T La Fi);have J8:=?TU Wa (fun F=>T7 F T Ib Kk Uh S6);have Ql:=?U7 DQ (fun F=>y7 F T Mn S5 Hk);have QV:=?VS Aa5 (fun F=>UJ F T F9 Oq C9);have Z6:=?TU NJ (fun F=>iE F T C9 Ga);have Cj:=uv Ri (?OW P9 Cv) ?a8;have Ki:=uv dQ (fun F=>y6 F T Kj Mj) ?a8;have Vw:=uu JB (fun F=>fH F T K9 C7 Bt Ng) (?P9 QZ (fun _ _ _ _ _=>rfl));have Oo:=uv dS (?OW z6 Gb) ?R;have V0:=?U7 JE (?OW FL Z6);have Ml:=uu b8 (?OW Xf QV) ?aH;have Mi:=uv aG (fun F=>Zc F T Cj Cv J6) ?a8;have J4:=uv Xn (?OW Vl Cj) ?aH;have Gn:=uv Rh (?OW P8 Ki) ?aH;have Fd:=?U7 Mo (?OW Lj V0);have Vz:=uu jE (fun F=>fK F T J7 Ml) ?aH;have J5:=uv Xo (fun F=>Vm F T Nf Cv Mi) ?R;have dI:=?VS rG (fun F=>mH F T Fd S4);have Ug:=?U7 nH (fun F=>iC F T Vv K8 J5 J4);have Mm:=?VS c5 (fun F=>Xg F T Gb Bt C7 Qj dI);have Lw:=uv GI (fun F=>CK F T Ug C7) ?aH;have Ia:=uv Ur (fun F=>S0 F T Lw Op) ?aH;have V1:=?VS jF (fun F=>fM F T dF Ia Gn C7 Vy);have V2:=uu JG (fun F=>FN F T Rv V1 Bt K9 Vw C7 Mm) ?aH;have DF:=dH uS UW (P:=l.prog) (w:=w) (base:=base) AH (fun F=>Zf F T V2 Vx Vz I0) ?R;exact yP Bo4 T Ql DF S7 Oo Jr Os Fi J8 Ib
theorem walk{l:PySem.W.OpenLaw}{q:Program}{loose:?dE Str}{XP:(?v3)->?GL}{YP:World->?GL}{d:DefRec}{K:Params->PySem.W.Frag}(hn:l.most=?c 63)(hdf:d.params.defaults=[])
 (hY:∀(w:World) (h:Heap),YP w h->?z7 h)
 (F:∀(w:World) (mg:?v3) (fa:Addr) (h:Heap),?z7 h->?LB->mg d.name=?QP fa →
   ∃fd:FuncData,(∀(s:Shared) (u:Value),BindsTo s fd ⟨[u],[]⟩ [(?gW,u)])/\∀base:Heap,?z7 ?d->?K8->Bw ?d8 w (K w.params) mg ?d Ex 14 fa fd ?qU (Xu (K w.params))) :
 PySem.W.WalkO q loose XP YP l.row.toRowW d [] (fun f vs=>PySem.call f vs) :=
 L2.walk_ofB (n:=63) (k:=14) (x:=?gW) (CX:=fun _=>Ex) (sp:=fun w=>Xu (K w.params)) hn ?b0 hdf ⟨rfl,?K,?K,rfl⟩ hY F (fun _ _ a ns hl ZO _ hS=>⟨a,ns,rfl,hS,hl,ZO,?CJ⟩) fun _ _ _ _ _ z=>z
universe Hb
end
structure PySem.W.Fast:Prop where(tw16064570631610453058 tw11148267117807163389 tw5847090027770635617 tw9638098139886067228 tw6143895648596606998 tw857955396810651958 tw6909495041293236674 tw7454712047509267712 tw1110234678527261816 tw9169739886496034630 tw8578414818802388287 tw12935181243758556191 tw4883892287550945681 tw3017798665661805162 tw4494468128300848612 tw15934122150550968209 tw1053310908066238349 tw11874280099074881134 tw1218082746723128782 tw11033696646294262165 tw2914338560939042267 tw14211438506328513460 tw13585616723346820926 tw13634838639597472000 tw1100635558016403545 tw8805491903988613777 tw1668223803281522691 tw14936421609736309698 tw17705646663776192741 tw1915510326978643337 tw590459877093075729 tw16199685264004131551 tw11247701266637874666 tw5743462552728012129 tw4123234288651218841 tw17656762235741129407 tw8562148376182755443 tw5687163757081223170 tw14359735601285771305 tw11746355178268360881 tw17258738460990989110 tw960421089757296943 tw31155089887254096 tw10708669912896418188 tw9259237965928552589 tw901159578933427596 tw7657311638621033082 tw12873226233568337462 tw6745828434800076645 tw1990116796979495959 tw1861528352251066408 tw337145639072403835 tw9459371837042681758 tw2221362996525061456 tw431412681543816603 tw578794371388684371 tw16554676716622066055 tw16836581407809567493 tw12842939042883082541 tw4083169285091354956 tw6419762427745594408 tw13186145049176551562 tw6847322703727956419 tw17723550183055553832 tw7327085741923958955 tw3023829687165234338 tw16243069334379728982 tw13081368038542189443 tw330548324052328628 tw5450895832273679995 tw15618279930099349785 tw8486011639464268995 tw2909171564369396244 tw8536490708392669259 tw8563211941332137482 tw9498537646295786523 tw10442263997696361774 tw14421674833716122417 tw15888546821775914522 tw10852142929675282164 tw18063276097946674661 tw67682383778674049 tw12561109311073335380 tw15634124374637631187 tw4880275230743055163 tw17818024302639267101 tw5280773462710614331 tw15765199435261593810 tw9604806279025222495 tw4086305604433279738 tw16533280539905953086 tw10843237265190523696 tw14209004017148168210 tw10220693654222202621 tw15975005592081865460 tw5297110021204064381 tw6149568768618742016 tw8759687601675232871 tw14960997182372839764 tw4057799883082965232 tw16424175024990894207 tw6625161660065217264 tw16008052945750167612 tw2811543362313721217 tw6801290648574949916 tw8260276425002623417 tw1353686142779080034 tw7853645351903491798 tw736524145885700887 tw17244405604443373837 tw5114634217367337841 tw886039378609358582 tw10110616465591823852 tw9309941735960228749 tw13839429315468267353 tw12214659551174882705 tw17290291517509033130 tw17724684608046570291 tw16344643598530673745 tw4748123819404494655 tw12602240846794514577 tw11903918389330934194 tw15545885256881271348 tw11205388804857695064 tw8489027386038761522 tw11759663057149871311 tw13519684640036810457 tw14303682704869345503 tw764277952431095208 tw13999085072239572596 tw5254467670630802115 tw12567841927769200255 tw13574899077285558421 tw12203393560411318743 tw9186784837051584166 tw7560585106142606790 tw13428030066520137181 tw8226413298371574094 tw10704730655035161306 tw15359750230010069955 tw11351643466397817590 tw10501320665514687776 tw3439544076009573517 tw6016026986332316157 tw11691105443665501763 tw14624661543194656940 tw5542606090220529497 tw17591774358639938109 tw5985972829669617755 tw6257685223281997240 tw16704363716052287781 tw14325593212173764955 tw13429224001811983876 tw1632325251428456750 tw14664263164189485776 tw15887432508285894564 tw13080920039308535000 tw5645808654188053214 tw6173819978623994724 tw18374333329684099957 tw11266660968970364094 tw5669282742002082553 tw15534996017266012099 tw425089821082464455 tw15846036886898910755 tw12321210087851312415 tw260950815604107313 tw11889813520858702418 tw17706804283173640784 tw7367963593285786598 tw9546137874012951177 tw9172517114569483533 tw13396669509529816123 tw18137768188454735424 tw18014195170005049045 tw17036977136695177591 tw2302283610055062878 tw13169327537452951834 tw12769598702000458660 tw10101219661971498188 tw4442607586761323978 tw15799760908098824527 tw11973977109411028673 tw13643048429175333086 tw10580070712440736877 tw16946832833530846108 tw904233553880237289 tw8043983785688427548 tw15201036606517603959 tw1720836928071318300 tw6283188940359399852 tw10927251549250574065 tw638734970722565736 tw2707959220632388167 tw852411251250366895 tw5750408567117138254 tw4806586684120788009 tw14184537802649335916 tw16946286698621539395 tw15024335607258563639 tw10834138462240019417 tw7857980304395359269 tw247188859140526817 tw14654556123562454290 tw6544032673269393798 tw1329767355037907660 tw16018554229782412358 tw9656835091353942775 tw3180233695300895991 tw3179938049275461601 tw12116026405259470447 tw3484258153941185228 tw16157581952507373543 tw11597563555457319875 tw4433102333312804473 tw17868520182909132289 tw12588524264275023837 tw6188545254006202495 tw16209951362483869381 tw9360781525298745015 tw6391475604390193218 tw3379643200283066088 tw763176821875137148 tw13176583926979323010 tw6470211945176252794 tw2588649562427210912 tw6962202151114426736 tw1938700851687098791 tw6070099170753630762 tw5123936437504080867 tw706484358563116071 tw14814753039069492044 tw15758499118070292826 tw11786104162968273641 tw384993296669115618 tw8367505340268955274 tw11099885589402216781 tw12261354388219564451 tw5781012962645534023 tw19428307861358740 tw483490483269959771 tw15083118405303546105 tw9960531392266783995 tw15601571719857598759 tw4001577206847636240 tw7889498209933580103 tw5325495055451562499 tw9784225601077757240 tw17968188404999574023 tw11759436896047238904 tw5757828852930193070 tw13083777346481799700 tw7040332339255905036 tw18342592086554605574 tw10996683948756546959 tw2018160429498024501 tw14147430684395929696 tw14605212257936821063 tw13526865110684277899 tw8609711963948718887 tw14227261707207521822 tw14649767662521195141 tw7965015076001480474 tw7028789212483323225 tw13794627003148576763 tw9487837385841467538 tw2073217604342899116 tw15221052482109345353 tw13743277160089781219 tw16245282583737204411 tw15980546440053757119 tw9469039149616529471 tw16486880102496661085 tw12417570330198036589 tw7590370900266960423 tw12932742453666896277 tw4352504569095503872 tw14553441056072562675 tw3189862829296610284 tw14287949348829784994 tw15899813949586841725 tw8671246873666457509 tw10816128366625953285 tw12979728076676607529 tw8873082861840810688 tw3135637312991429331 tw18089031778703212577 tw6758920826956709714 tw8483797997285063089 tw14227627944311628512 tw9208800688353677598 tw4717273473172819628 tw14559807012344328622 tw5880920012324585066 tw8602793326166339501 tw15260020966528289198 tw2285474083492365790 tw9417425691986829974 tw9832738556070544669 tw5857498214188781956 tw12607431084330201019 tw508750254282957714 tw14039088766826215813 tw9789517420371669043 tw6507661668163374724 tw5963025076831850725 tw17888628103431739323 tw9031184791631960113 tw6254918337250649767 tw855225926453634934 tw1287114363358334830 tw1474232160163408795 tw14280414029970138636 tw18001564282003235364 tw8240758583423538834 tw9960098482354264 tw9565925047140745522 tw10882614351770102077 tw15484992895151868350 tw11702287616604586444 tw18136794908896125599 tw5230201315019496619 tw13146634031321097559 tw9173095692877070013 tw9360985857134844725 tw17214360548719618244 tw13734550174505520852 tw16996467616173801223 tw2032021014925038087 tw16080562451362884279 tw15380956835444489548 tw17065269484946277111 tw16073657025713661412 tw10646293199408306628 tw14748273541407832994 tw13459683068207940393 tw8943792385618736328 tw15059218422723682254 tw13846118245418894897 tw1477295101064898142 tw3727037156288196662 tw14094841684030660924 tw15837253070250605440 tw10289232817320479401 tw5233519894257798430 tw2387801357154481646 tw15853627188772245162 tw7944408499648519486 tw1613964170346637510 tw5040610239736604635 tw14309344709251134761 tw1076742181860849139 tw7590572794400547588 tw12173382703896562831 tw9638466019063823866 tw11935377041131883436 tw8722775919458087128 tw1050755225005452354 tw2000148228218992568 tw7170090881268300107 tw12844485539378610644 tw2555508064765778466 tw10938741143701806667 tw14799930057134185636 tw15968303090846862788 tw716395828425117812 tw177781646027316088 tw16830708127037755708 tw15740080878509696321 tw12281249816042038143 tw18284320011886591079 tw4765458761529962406 tw17077697307373081883 tw3785056356058049518 tw17638238885777398835 tw12057200112679642203 tw15109661623055126872 tw10162269452724845749 tw13071421934692629441 tw15139918119624767654 tw16393405770732604075 tw15566004382881286657 tw8176291313018856876 tw16128847824849175200 tw16400998526658508141 tw8726725017402063399 tw4953741890975086921 tw12815165418294201146 tw14872872943681802176 tw13316333600862074720 tw15966196182608502852 tw6692027217096638850 tw8817148625170153117 tw13483401766702194759 tw14289544285004917227 tw14399106098443648126 tw16511939450698513402 tw16017647217967332330 tw15223073437514517220 tw4230687733793943170 tw3023290088133616051 tw9248713162520448248 tw3520859749286400449 tw14312545463238276945 tw12974436958786560409 tw178875847334671773 tw3957514205132339473 tw12789938583529135191 tw5995134903274599392 tw17292503236937733873 tw7418762040621327398 tw18376708687609834337 tw9626634029532286412 tw655939425321852507 tw11881576998823195097 tw161265475125492604 tw14635112473115691804 tw1552759119790048082 tw14341697795296810135 tw1119764581455499409:True)
open PySem PySem.W PyProof.Rows
set_option maxRecDepth 100000 in
set_option maxHeartbeats 0 in
theorem PySem.Challenge.cw_holebook_k36_lifts_holds : PySem.Challenge.rw_holebook_k36_lifts.Holds := by
 w_on;o_law;k_head;(case hw=>w_witness2)
 k_fill
 refine Hb.walk (l:=PySem.Challenge.rw_holebook_k36_lifts) rfl rfl (fun w h Y=>PySem.W.kIn_of Y) ?F
 case F =>
  intro w mg fa h KX G hmg
  refine' Hb.all_mk KX G hmg ..
  all_goals try delta Hb.nS Hb.nN9 Hb.kO
  all_goals try first | exact⟨_,_,by k_is,⟨⟨_,_,_,_,_,_,_,_,_,rfl,by k_is,by k_is⟩,by k_is⟩⟩ | exact⟨_,_,by k_is,by k_is,⟨⟨_,_,_,_,_,_,_,_,_,rfl,by k_is,by k_is⟩,by k_is⟩⟩ | k_is | kit_is | kts_isx | k_exc | k_qdec | kernel_rfl | decide +kernel
