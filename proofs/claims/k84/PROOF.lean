import PyProof.Rows.All
import Wide.All
import OpenK.AllK
import Wide.FinOn
import Lean
import PyProof.EqAt
import PyProof.EqKinds
import PyProof.TupleCall
import PySem.Challenge.RW_holebook_k84_whole_counts_by_tables
set_option linter.all false
set_option Elab.async false
set_option maxRecDepth 100000
set_option maxHeartbeats 0
noncomputable section
local macro_rules|`(tactic|omega)=>`(tactic|first|with_reducible assumption|with_reducible exact Nat.le_trans (by assumption) (Nat.le_of_ble_eq_true rfl)|with_reducible exact Nat.lt_of_lt_of_le (by assumption) (by assumption)|with_reducible exact Nat.le_of_lt (by assumption)|lia)
local macro_rules|`(command|mutual $cs* end)=>do
 unless cs[0]!.raw.isOfKind ``Lean.Parser.Command.check do Lean.Macro.throwUnsupported
 let some l:=cs[0]!.raw.find? (·.isOfKind `«term[_]»)|Lean.Macro.throwUnsupported
 let d:Char->Nat:=fun c=>if c.isDigit then c.toNat-48 else c.toNat-55
 let a:Char->Nat:=fun c=>if c.isLower then c.toNat-97 else c.toNat-39
 let e:Lean.Syntax->Nat:=fun s=>match s.getId.toString.toList with
  | [x]=>a x
  | [x,y]=>52+a x*36+d y
  | [x,y,z]=>1924+(a x*36+d y)*36+d z
  | _=>1000000
 let f:Array Lean.Syntax->Lean.Syntax->Lean.Syntax:=fun m s=>s.rewriteBottomUp fun x=>
  if x.isOfKind ``Lean.Parser.Term.syntheticHole then m.getD (e x[1]) x
  else if x.isOfKind ``Lean.Parser.Term.app&&x[0].isOfKind ``Lean.Parser.Term.explicit&&x[0][1].isOfKind ``Lean.Parser.Term.paren then
   x[0][1][1].rewriteBottomUp fun y=>if y.isOfKind ``Lean.Parser.Term.syntheticHole&&e y[1]<2 then x[1][e y[1]] else y
  else if x.isOfKind Lean.nullKind&&x.getArgs.any (fun y=>y.isOfKind ``Lean.Parser.Term.instBinder&&y[2].isOfKind ``Lean.Parser.Term.forall) then
   x.setArgs (x.getArgs.flatMap fun y=>if y.isOfKind ``Lean.Parser.Term.instBinder&&y[2].isOfKind ``Lean.Parser.Term.forall then y[2][1].getArgs else #[y])
  else if x.isOfKind ``Lean.Elab.Tactic.Ext.ext then
   match x.find? (·.isIdent) with
   | some i=>match m[e i]? with
    | some t=>Lean.mkNode ``Lean.Parser.Tactic.paren #[Lean.mkAtom "(",t[1],Lean.mkAtom ")"]
    | none=>x
   | none=>x
  else x
 let mut m:=l[1].getSepArgs.map fun x=>if x.isOfKind ``Lean.Parser.Term.inaccessible then x[1] else x
 for _ in [0:((cs[0]!.raw.find? (·.isOfKind `num)).get!.isNatLit?).get!] do m:=m.map (f m)
 return Lean.mkNullNode ((cs.extract 1 cs.size).map fun c=>
  if c.raw.isOfKind ``Lean.Parser.Command.universe then
   let i:=c.raw[1][0]
   Lean.mkNode ``Lean.Parser.Command.end #[Lean.mkAtom "end",Lean.mkNullNode (if i.getId==`e9 then #[] else #[i,Lean.mkNullNode])]
  else (f m c.raw).rewriteBottomUp fun x=>x.setInfo .none)
mutual
#check(4,[?a,?b,some,wpAny,∀(I:?l),a,X.env,(model ?W X.w),∀(K:W.Frag),a,X.xe,.int,.ref,?A0 H s,.inl,List,?n ?R,s.heap,(Cs I q ?S),∀(Af:Bl) (s:Shared) (σ:St) (H:Hp),a,?c o,if_neg,Vals,.nil,?c u,.(by obtain⟨t',rfl⟩:=ry),.(by intro Af s σ H Q I h),∀{A:Around},a,?n V,∀{us:?o},a,.inr,.non,?n Addr,absurd,(?i0),.cons,?CJ b,?c v,outer,St->?U,name,if_pos,?n Str,decide,∀{pos:Pos},a,Value,(?aV),∀{u:Value},a,Hp->Prop,?u xs us,X.prog,none,∀{Af:Bl}{σ:St}{H:Hp}{s:Shared},a,∀{E:?cG},a,(model prog w),(?gG),(?j9),eval,(?k f),.(by obtain⟨x,H1,I1,r1,q1⟩:=_z),.seq,?k a,(EP X Af σ Q),?aA Int,Option,(e::es),.BoolOp,s.heap.objs.size,I.hok,ObjOk,.Call,?j i,k _ _ ?dP e,∀(X:Cx)(Af:Bl),a,∀(xs:?A),a,∀{xs:?A},a,∀{K:W.Frag},a,?f6 a,.none,its.toArray,RelV,(n:Int),.tup,base,kindOf,.(by simp),.lst,s.heap.get?,sIx ?l6 0 lo,2 ^ 62,.(by exact ?rK),∀{Q:?cG},a,∀{P:Program}{w:World},a,∀(s':Shared),a,.(by exact qb3 e),∀(a:Addr),a,∀(h:Heap),a,false,?gU=?s,qual,.Attribute,xs.length,I.free,I.freeC,pure,?aQ v u,.type,compareOp,(by omega),scope,.str _,?m0 x=?hJ,?hZ ?R,?n (Str × V),∀(us:?o),a,∀(vs:?A),a,∀(s:Shared),a,∀{s:Shared},a,∀{a:Addr},a,(by decide),?aX b=?s,X.base,Ed K H a xs,Shared->Prop,Str->?eI,?n Env,W.findIn,(x=?a7),⟨_,rfl⟩,?aQ x v,.builtin,starEach,I.bare,∀(ha:?rS)(hb:?B4 b tb),a,.(by obtain⟨t,rfl⟩:=r),?j _,?k p,I.kIn,.Name,backTo,?BN xs.length,(1:Int),?R->?bX,congrArg,(vs++dvs),fun v s1 _z=>?_,?n Stmt,D.nx σ H,I.cell,(I.ok.hd hc),s1.heap.objs.size,(?A7 he h),(g i j),?c .local,binaryOp,X.stack,?d4 ?bB 0 lo,sIx ?l6 ?l6 hi,?aQ x u,∀(x:V)(y:V)(H:Hp)(Q:VK),a,∀(P:Program)(w:World),a,∀(he:?lR),a,∀{es:?f8},a,∀{i:Nat}{x:Str},a,∀(r:?bF),a,∀(u:Value),a,HT.sIx,(?k it),.fields,?bG ?lG,I.base.free,False.elim,I.tuple,?dU b,b≠X.env.locals,(?k x),I.os,.bl _,Pv i σ H,{ s with toks:=?y4 },I.pin,?H r t,(?cA),items,I.tok _,xs[i]?=?e0,(?a7),(?l4),I.ok.kind,?C x,?CG e,?bG ?l8,h'.get?,.str x,(model P w),[?a7],Bool,SqL K H a xs,?c x,t σ H Q,s'.heap,∀(hf:?kY\/X.env.scope.names.lookup x=?cR:=by first | exact ?l4 | exact ?C rfl | assumption),a,.(by intro X hP hw hK hc i Af s σ H E I hf st hg;subst hP hw hK),.(by obtain⟨f0,f1,f2,f3,f4,f5⟩:=hf it ?S),∀(F:Bx ?W X.w X.K X.mg ?bV CX k f fd ps sp),a,.(by intro Af s σ H D I h),∀(ha:PA X ?aB t),a,∀(Q:VK)(x:V)(H1:Hp),a,∀(lo hi:?a9),a,∀(R:?kD),a,∀(outer:?bZ),a,∀(A:Around),a,(?mB).any,(by ext g6),?u xs its,?c ?X,?aA ?R,(?A7 ha h),scope.names.lookup,(?aW xs),.(by simp at h),fun _ _ q=>q,Paired,⟨x,H1,I1,r1,q1⟩,(?J),Ne.symm,"range",?c .cell,?BR us,(qo6 _),V->?U,bindL,(upd H a o),qc2 _ rfl,?fU ?lQ,?CG o,(qb3 e),IsTup,fun b hb=>?_,Gb k A,h.get?,b ∉ ex,?n Expr,I.loc,c=true,X.mg x,?c j,(i+1),zL K a,?A->?hE,?aQ y u,I.hok.fresh,?h1 hq,Value.ref,Cf xs lo hi,V->?hE,b ∉ ch,{ s with heap:=h' },u=?fJ a,?aA V,(?c4 id),I.laid,zM K a,X.base.get? b=?s,s.heap.push,?dA hq,holding,?k ?aD,bindC,K.In ?p,envOfC ?b9 ?bJ ?aD f cd,∀(s:Shared) (Q:?cG) (E:?cG),a,∀(hb:?tO)(hd:?qJ)(hx:?sR),a,∀(hd:?sX:=by decide),a,.(by intro Af s σ H x y v u Q I rx ry h),∀{Af:Bl}{s:Shared}{σ:St}{H:Hp},a,.(by simp only[qc3]<;>omega),∀(E:?cG),a,.(by obtain⟨t,rfl⟩:=rx),∀{Q:Unit->?bX},a,∀(Q:?xV),a,∀(ha:PT X a tA),a,∀(x:?nS),a,∀(hg:?nQ),a,X.N[i]?=?e0,ML ?cT,?k C,w::vs,pos.line,Nat->?l2,{ cls:=?d7,data:=?a6 ?aP n },?c (?c ?a4),(?aS xs),IsPart,value,(∀σ' H',?mJ->∃m',m'<m/\W ?fD m' σ' H'),(?k sl),X.env.locals,H' b=none,H a=?s,?f6 b,UE lo n,.(nomatch e),(start N vs),fun _=>none,.Subscript,(?uF pos (keywordEach [] ?f)),I.list,qe1 h1,?c (?kU),s.heap.FunFrames,?aN=?s,k b u q,?n α,(?fX),(?k t),?bE ?b7,(ps.zip us),?d4 ?bB ?bB hi,(k,x)::r,Hp->VK->Prop,(hi-lo).toNat,?c ?gM,g x σ H' fun σ2 H2=>tb ?qE σ2 H2,.bl b,?c c,.(by ext jQ),.bl k,b ∉ X.fs,assignEach,?c .free,.Compare,?m i,PySem.W.instObj,getItem,qa6 _ q,Sum.inl,2 ^ 64,?H _ t,{ s with heap:=h',toks:=t' },.Constant,Array,qa1 _,(?cC x pos),V->?a9->?a9->?hE,?cM x c e,I.base.keep,?c (.own a),fun u s1 _z=>?_,I.ok.bs b o e,⟨H1,I1,q1⟩,Q v H',?t hj,fun b ob q=>?hT,(neC b o e hx),fs.map,I.kept,AllBare,Sum.inr,(x=.bl c),?t hk,I.ok.above,(?j i t),fun b o e=>qa6 _ e,X.outer,(x=?aH),bootBuiltins x,.bool,?N hk,callWith,?n (Str × Value),(tOp r ta tb),.bl ?b7,fs.lookup,Pv ?fD,(b,o),I.len,pl.isList,((p,w)::?m9),X.calm=true,((?qP:Nat):Int),qa3.mp,W i m σ H,∀b∈fp,?gS,fun b o e n hb hx=>?_,ht.typeIs,.(by simpa using hb),s.heap.objs.size+1,behindInMarks op b=false,assign,?dB=?s,?N hj,∀(he:?nF:=by rfl),a,∀(hN:X.N.Nodup)(hi:?gE)(hx:?xF),a,.(by obtain⟨o',e1⟩:=I.base.there b o e hx),∀(hdb:?sX:=by decide),a,∀(k:∀b u,?mM),a,∀{kindOf:Str->?aA NameKind}{x:Str},a,.(by have e:b=it:=?j8),∀(mg:?bY)(base:Heap),a,∀(hn:x≠"__name__":=by decide),a,∀(H':Hp) (i:?nB),a,∀(r:V->?fF),a,∀{f:?uP},a,.(by rw[Ak (Ar q hn)];exact q),∀(sp:Sp)(dvs:?A)(E:XK),a,∀{kw:?iS},a,∀(hc:?j1),a,∀(g:Int->?mX),a,∀{b:Addr}{o:Obj},a,∀{e:Expr}{te:TE},a,∀(ha:?rS),a,∀(r:?n0),a,∀{xs ys:?A},a,∀(hr:Gb k X.A),a,Dm K C f,I1.laid,k b o (fun z=>hc (by simp[z])) e,H p=?c ?eL,Q () s',?a3 b ?f,(hs.2 b (qc9 (qb4 ?f2 ?iJ))).trans,?d9 hq',(?bG T),putF f y fs,W.keepIn,fun _ _=>False,It->?U,?CJ a,tb σ H1 Q,pyIter,?c5 es ?f,u.keep,-?aR<=i,?AY ?eT,k b ob q,I.step,its.length,?fB=none,∀b∈fp,Qo X Af H b,H1 a=?h3,swapsWith,seqIndex_of,(hs.2 b (qc9 (qb4 ?f2 (I.ok.cab x c hfn hc)))).trans,.ins C dx fs,putF f v fs,?CG a,∀b xs,H b=?hG->H' b=?hG,X.fn x=true,W.isFn K ?a4=true,codeAny,?CJ p,Nat->?L,I.base,?m rfl,Builtin.Slice.slicePlaces,items.size,{ cls:=?bG ?eS,data:=?d6 #[?j lo t,?j hi u,?j 1 v] },"tuple",fun p hp=>?_,q _ (?fH ?G),dx≠x,vs[i]?=?J,PySem.W.methodObj,a<h.objs.size,?n (?fP),"list",sp vs H Q E,?d9 hq,?a3 e env,Ed X.K H p ys,fun h' eb=>⟨rfl,?BS (fun b o hb e=>eb b o hb e)⟩,(?fU ?l7).objs.size,⟨v,H,I,r,h⟩,X.pn++Af,qc6 hQ,PySem.W.emptyDict,?B4 e te,?a9->?U,PA X es t,?R->Sem ?R,SqL X.K H p ys,(f,first),mA ?M,s.toks,K.lookup,X.env.cells.lookup,I.turned,I.ok.mod.kin,seqIndex_neg,tn i ?p,?A->?U,Un.kept,vs.toArray,?aF P w H h a o,P.zip vs,?iV m=none,?cD pos (?kH),r.inj r',?c (?rY),(i==j),H b=?w,fun b hb=>(hf b hb).1,xs=[?cA],(f v u),N σ' H',qb7.mp,o.dict=none,?gU=?w->?dB=?w,?fJ ?a2::us,X.s₀.heap.get? b=?s,h.objs.size<=a,?c5 ?aB ?f,?fW [ov] (?nP ov m pl),I7.unpinned,PySem.W.plainGet,its.toList,Heap.SameBut,[?aH,?j j],Int->V,Int->Int->Prop,s3.heap.objs.size,?u vs us,Mm.new _ _,standAt,(j:Int),?hR C ?aD,s.heap.update,Cls X.K C,h.Ns1 dx mA,PySem.Within,bY ?aE e,∀f,Os (?iV f) (mA f),?A0 H' s',wpAny_Name,.UnaryOp,?n2 apos.atName,?mQ=?v1::?kH,iE P w K mg ?aT A ?K s H,p.isList,getAttr,if v<0 then(v+?aR).toNat else min v.toNat n,attributeBase,?A0 H ?fN,ws.toArray,s.TypeIs,.Assign,getMethod,Gl X x,List.replicate,Q2 P w H h,?n Keyword,A.deeper,?hN es ?f,?j (lo+i),(k:Int),((0:Nat):Int),{ s3 with heap:=s3.heap.push { cls:=?bG "slice",data:=?d6 #[vl,vu,?aO] } },sliceBounds lo hi ?X n,i<=xs.length,.(by simpa using h1),Sem ?dY,o.cls=?dT,∀(hch:∀b∈ch,(b∈X.ex\/?A4 b)/\?dC/\?uW),a,.(by rw[show putF f v (?hD)=(if k=f then(k,v)::r else(k,x)::?qC) from rfl];by_cases hk:k=f),∀{g:TG}{tb:TS}{D:Ends}{σ:St}{H:Hp}(Pv:?l2)(h0:Pv 0 σ H),a,.(by obtain⟨its,r',pl,hz⟩:=?fI;have hlen:=r'.length),.(by obtain⟨σ',H',I,q⟩:=h;exact⟨σ',H',?tG,q⟩),.(by subst e;exact I1.fpOk ?G (I1.hok.fresh ?G)),.(by obtain⟨sl,e1⟩:=?BG ?t9 hx),∀{K:W.Frag}{mg:?bY}{base:Heap},a,.(by obtain⟨its,r',pl,hz⟩:=?fV),∀(e:H a=?h3)(c:?n6),a,.(by obtain⟨e,n,ne,nf,d⟩:=?wI),.(by exact ?zZ hb Q),.(by obtain⟨od,J,hl⟩:=I.look),∀(σ:St)(H:Hp)(Q:?L),a,∀(ho:?BM (?bH op) r),a,∀(hok:Q2 ?W X.w H' h'),a,∀(prog:Program)(w:World),a,∀{prog:Program}{w:World},a,∀{mA:?bY},a,∀{a b:Expr}{ta tb:TE},a,∀(i j:Int) (t u:Tok),a,⟨y,H2,I2,r2,q2⟩,pX Q x H1,?B4 ?i1 (tC v),jS X body tb,I.pins_of,pZ tb σ Q x H1,Du ?eJ ?cJ,W m σ H,FnScope N ps ?bJ,?n Key × V,I.base.tups,ItB Q x H1,k b u (hb b n) q,Ed X.K H a xs,fun σ2 H2=>tb { D with nx:=?iW,ct:=?iW,bk:=D.nx } σ2 H2,(g==k)=false,.function,fun w hw=>h w (qd0 _ hw),Mut (H x),[v,ov,iv],I.stkSub,(vs++ws).toArray,?aX p=?c ?gK,?nU (?g0),HP X Af σ Q s',[op,op'],.(by simpa using hs),pl.isList.typeIs,∀b o u,H b=?mD->H' b=?mD,isTrue e ?f whole,?u [x] us,?gN vl lo,PySem.W.makesIn K C=true,?P (x=y),ob.slots,sc.isGenerator=false,I.ok.frf,A.depth+1,X.H₀ b=none,∀x∈P,?u3,(Q ?cQ H),I.ok.bsz,∃u,us=[u]/\?cW,qa5 (Vy xs lo hi) hz,qE R vs H1,(show False from r).elim,slicePart_none,⟨?j ys.length,H,?dM,⟨?y4,by rw[qc3,hlen]⟩,q⟩,Nat->?U,PG X tg g,wpAny_isTrue_Compare1,vS i σ H Q,fun j y v' e1 e2 e3=>?_,?A1 M (storeName ?f x u),fun x c e=>?_,?BZ b,?lZ a=?s,?hZ UInt8,putF f v r,?wD=?hU b,{ D with nx:=N,ct:=N,bk:=D.nx },?aE p _ hk,?iV f=?J,QD R vs H1,⟨z,H3,I3,r3,k,e,q3⟩,?u dvs ds,Paired.mapP,∀b ps,H b=?c (.tbl ps)->∃more,H' b=?c (.tbl (ps++more)),Gb (k+1) X.A,call_list_seq,X.env.scope,sIx n 0 lo,{ cls:=?d7,data:=?a6 its'.toArray n' },(qj5.mp hp).elim,D.nx σ H1,subscripted,PySem.W.handedIn,I.ok.exfs,s'.os=s.os,vU K x lo hi H Q,Addr × Obj,u=Value.none,PySem.W.takerIn,(?g0).kindOf,CE ?K P w H s Q u s',∀y∈sc.names,y.2≠.free,subscriptTail_builtinR,VT K f D σ y x H2,IrI C g x y H Q,⟨?j ?cQ,H,?dM,?c2,q⟩,?mL/\o.data=?a6 its n/\?BN its.size/\?u xs ?mU,(?b7,?k6),subscriptTail,?iF s.gens,Int->Int,qp6 (pl:=pl) (Du ?cP ?i6) ht,h'.objs.size,noFill_tuple_add,concat_meets,(X.wish E).Ok,qA o i v H Q,((?aY:Nat):Int),?F (show false=true from hs) qd6,?A0 H ?hX,(a==sysModules)=false,qC K x y H Q,PySem.W.hasDictIn K C=true,I7.pin ?iX (qg1 _ (qg1 _ (Nz hb e))),(?kV).map,{ s with heap:=?v3 },?B4 a ta,?C1 (f ?iK (?j j u)),.(by rw[Ak (hm b _ q fun z=>z)];exact q),sc.kind=?p6,?bU/\?I,?B0 ?M,.frz o u,⟨us,[]⟩,?iF s'.gens,∃t,u=Value.bytes b t,fun m=>xs[i+m]?,⟨_,?eZ,rfl,rfl,_,rfl⟩,?zV (?kW) (?CC (?CL ?mI Q)),Builtin.Slice.sliceAdjust lo hi 1 ?aR,P[i]?=?e0,?cH ?c e,Bp X Af σ H' { s with heap:=h',gens:=g',drawn:=d',toks:=t' },xs.length<=i,σ[i]?=?c ?eQ,A.handled=none,⟨σ,H,I,h⟩,i<xs.length,((?tB:Nat):Int),j<xs.length,I1.kept (t':=s1.toks) ?iL,?CG (?AB e args),?d4 ?kN 0 lo,fs.length<=1000,?cB a o hk,eq_of_beq,?BN ys.length,jT r' tc σ Q y z H3,vs.length=ps.length,fun h' st' sb=>?_,(sb.2 b hb).trans,Sd CX X E,"type.__call__",lo+?nY*1,X.s₀.heap.FunFrames,Bp X Af σ' H' s',s.heap.objs.size<=a,(x==("__debug__":Str))=false,.ins C ?aD [],fs.length<1000,V.ref ?a2,VU K x lo hi H Q,?B4 o to,.bl (!c),s.heap.IsSliceOf sl vl vu ?aO,j<1073741824,⟨?j6,?j6,?d8,?wU,?p0,?uQ,?wS⟩,κ × Value,Gb (k+1) A,I.base.slot,es.toList.any,sIx n n hi,?zV (call ?fQ (v::us)) ?a8,fun b z=>?F z (noA b),pV X.K C m g,fun z=>(hch _ z).2.1 rfl,I.unwish,seqIndex?,?xQ ?a2 scope.names [],fun r s'=>r=w/\?AW r s',?uH=?iG b,hb wh Af s1 σ H1 Q I1 q1,(?cD cpos (?kH)).any,s.heap.Ns ?gR m,Nh X.K fd ps ds,?A9 qc6 ⟨_,rfl,qc6 h⟩,(mixKind prog w).is,∃t,u=Value.float b t,∀v,o.data≠.cell v,ItFld K f Q x H1,List.range,Qo X Af H' b,[s1.heap.objs.size],.(by simpa using I.len),?bA o f pos',op≠.NotIn,Vals.append,UnaryOp_,vW K x y H Q,?AY ?cR\/?kK,.(by simp[putF]),hd σ H p,PySem.W.lookIn ?M od,h.objs.size,r x xs H Q,((i:Int)+(m:Int)*1).toNat,?cC x pos',⟨rfl,rfl⟩,QE K R x H1,?gN vu hi,PX Q x H1,backToKw,.set S n,(?iG a:Key),∃o,?h5,Vis ?qO x,H dx=?i5,?BN kvs.length,Uu f y fs,{ s with heap:=h',toks:=tk },t D σ H,?R->?lU,I.base.frzs,(?b7,?kW),?zY cd,u σ H1 Q,k a _ ?dP e,IsRangeIter,(?q9)/\∀p∈?lO,p.1≠b,h.ok ?aE,PS X st t,z.sameBut hs (cne y c e),PT X c tc,(?b7,?dS),R x y H2,(?f0).push (?n4),?A0 H' s2,fun i h h' st k=>st.at fun o e=>k it ?S o e,J.go i H,fun _ e=>?gW,PS X (?nO [?uA] e pos) (QV te (AO i)),.(by rintro rfl;exact h v qe3),fun h' tk k=>⟨_,H,?iE k,?_,q⟩,b ∉ X.ex,e=x\/H e=?c (.own x),⟨ok.mod,ok.kind,ok.glob,ok.blt,ok.above,ok.inj,ok.has,ok.cab,ok.hd,ok.frames,ok.stk,ok.exf,ok.bs,ok.bsz,ok.noex,ok.exfs,ok.funs,ok.frf⟩,SqL K H p xs,∃o',?dB=?c o',pY C m sp dvs E t σ Q x H1,"__getitem__",∃t,u=Value.str x t,Calls.Name_function_global,fun a e=>?_,PySem.W.plainOver K C=true,?n Key × Addr × Value,r x y H Q,rv.get hx,?aX b=?w->?dB=?w,Q (?j ?cQ ?lY) ?dH->?rT,?aX p.1=?c p.2/\H p.1=none/\p.1≠X.env.locals/\p.1 ∉ X.fs/\∀v,p.2.data≠.cell v,scal x y=true,?AW u s',⟨_,ho,rfl⟩,qd0 _ hb,⟨rfl,fin⟩,∀vs H Q E,?lH->?sO,?C1 (?CG ?i1),fun(m:Nat)=>xs[?u9]?,i=xs.length,(g==k)=true,b∈X.fs,∃t,u=Value.int i t,∀b∈fp,?tV,.(by have:=r.un;omega),Subscript_,i.toNat=j,∀name,?u6=?c (?lX),∃sl,?dB=?c { o with slots:=sl },⟨_,rfl,r⟩,Int->?rC,IrU g x H Q,(?hU a:Key),qG t u vs σ H Q,Aq8 g x y H Q,J.stop i H,(us++ds).length=ps.length,?dI p hp,?aA Expr,seq_tuple_add,Heap->Prop,Obj.mapSeq,PG X ?i1 (AO i),{ s with heap:=?fU ?l7,toks:=tk },e0.hok.fresh,fun r s4 _z=>?_,⟨_,?eZ,rfl,rfl⟩,I.base.tbls,sc.names,fun b o e hx=>?_,fun z=>(hch c z).2.2.1 x c e rfl,sc.isCoroutine=false,.bl true,op≠.In,fun c H1=>Q (!c) H1,Bp X Af (σ.set i ?eQ) H s',Dm X.K C f,i<vs.length,∃u,?dU e=?w,vY K R x H1,(?CK ?cQ),VY K n t v σ H Q,(?rJ==0&&?cF==1&&(?cV-?aY)==items.size)=true,?B4 o ta,?k2 (t':=s1.toks) (fun b u e=>qa6 _ e) ?G ?_,Bp (X.wish E) Af σ H s,IC ?p x dx C mA,SqL X.K H a xs,VW K x y H Q,.(by have:=r.dp;omega),ZJ ?qO x,Mk X.K C f,(0:Int)<j,?CJ l,Mod X.K X.mg ?bV,(i+n).toNat,fun v hv=>(qi5.mp nd).1 (qq3 hv).1,(its.toArray.size:Int),VS tb σ Q x H1,PySem.W.cellsFrom_some,Nat->?wL,cellsFrom,pW Q x H',fun b o e=>(e0.bs b o e).1,?CD (tCB r t),H1 p=none,?dY->?U,X.prog=P,slot_list_getitem.lookup,.(by subst z;rw[r]at mu;exact mu),(n,v)::r,fun x H' y=>?_,Int->?dY,⟨_,ho2,rfl⟩,(qr7 _ _),s.toks+1,.(by refine ?AN ⟨xs,xs[i],q,by simp[hlt]⟩ xs.length;obtain⟨e,y⟩:=y;subst e;exact hs i x σ _ (y xs q) p),.(by refine⟨fun i m σ H=>m=xs.length-i/\?o1/\?dG,⟨?bB,?aV,qa9 _,h0⟩,?_⟩;rintro i m σ H ⟨rfl,hi,p⟩;have q:=hl i σ H hi p;by_cases hlt:?sD),.(by refine ?rD;obtain⟨x,H1,I1,rx,a,dx,fs,ex,ea,l,q⟩:=_z;subst ex;obtain rfl:?fO:=rx;refine Ry I1 ea c hm l ?_),.(by have I1:?nL:=?BS (fun b o hb e=>?sQ e);obtain⟨o,e,c,d⟩:=id st'),.(by obtain⟨j,h1,h2,h3,h4,h5⟩:=jQ he;obtain⟨w,ew,rw'⟩:=r.get h2;have hl:=r.length;have hn:=bV;have fin:?AW w s:=⟨z,H,I,rw',q⟩),∀(hs:∀i x σ H,?dN->?dG->g x σ H ?p4) (hd:∀σ H,Pv ?bB σ H->?cL),a,.(by first | rfl | simp[Around.under,Code.weight,Code.isCreation,Code.isGuard,Code.isCaller,Code.frames,Code.isFrame,guardIds]),.(by intro value slice Af s σ H x y v u Q I rx ry h hs;obtain⟨p,xs,i,z,rfl,rfl,hq,he,q⟩:=h;cases rx;obtain⟨t,rfl⟩:=ry),.(by refine Du (?zZ hb _) fun u s2 _z=>?_;obtain⟨y,H2,I2,r2,q2⟩:=_z;exact hf v u s2 x y H2 I2 r1 r2 q2),.(by rw[e]at e';cases e';rw[d]at d';injection d' with d1 _;have:its=its':=by simpa using ?cH Array.toList d1),.(by intro Af s σ H xs us Q I r h;obtain⟨i,j,rfl,q⟩:=h;obtain⟨u,w',rfl,⟨t,rfl⟩,⟨t',rfl⟩⟩:=CZ r),∀(mu:?p8)(he:?vC)(k:∀b u,b≠e->?mM)(zY:?x3),a,∀(hf:∀v u s2 x y H2,?A0 H2 s2->?c3->?fG->?v2->?d ?g X.A ?mI Q ?i s2),a,.(by simp only[sliceBounds,HT.sIx,Option.getD_none,show ?cF > 0 by decide,if_true];by_cases h:i<0),.(by intro Af s σ H xs us Q I r h;obtain⟨p,ys,rfl,hq,q⟩:=h;obtain⟨u,rfl,rx⟩:=Vf r;cases rx),.(by obtain⟨σ3,H3,I3,n3⟩:=q3;obtain⟨m',hm,w3⟩:=hN σ3 H3 n3;exact⟨m',hm,σ3,H3,I3,w3⟩),.(by rw[ql2 (?eR hj)]at e2;obtain⟨u',r',q⟩:=hl j y v' e1 e2 e3;refine⟨u',r',?_⟩),∀(hi:?gE:=by rfl)(hx:?xF:=by first | exact Or.inl rfl | exact Or.inr rfl),a,.(by obtain⟨o',es',zA,ho',r'⟩:=hm;rw[ho]at ho';cases ho';exact⟨_,es',zA,hL,r'⟩),.(by have e2:(op==CmpOp.NotIn)=false:=?B3 h2),.(by have e1:(op==CmpOp.In)=false:=?B3 h),.(by subst e;obtain⟨o,e,c,d⟩:=st;exact⟨o,e,fun v z=>by rw[d]at z;cases z⟩),.(by refine⟨⟨o,e,ex.1⟩,fun a e2=>?_⟩;cases e2;exact⟨o,e,ex.2.1⟩),.(by intro Af s σ H R I h;refine Du (?A7 hl h) ?cJ),∀(hs:?nF:=by rfl),a,.(by obtain⟨_,_,_,_,o,_,_,e,ex,_⟩:=?qF;exact⟨o,e,ex⟩),∀(X:?fZ)(I:?xB)(hg:?mT K C ?M=true),a,∀(hs:?kR e (?c (?uA)) ?gI ?f=?hA:=by rfl),a,∀(hs:?t4)(pl:?pL)(pu:?uD),a,.(by obtain⟨d,rfl,q⟩:=q1;cases r1;exact qj8 ⟨H1,I1,q⟩),.(by subst hj;rw[hi]at e1;cases e1;rw[qp2 hiσ]at e2;cases e2),.(by have hf:H1 ?cO=none:=I1.hok.fresh ?G),.(by cases y<;>exact ?rK),.(by intro Af s σ H x v vl vu lo hi sl Q I rx hs pl pu h),.(by rcases Dz hv with⟨j,u,rfl,rfl⟩|⟨y,u,rfl,rfl⟩),.(by subst e;exact ?m ⟨⟨xs,q,?i0⟩,?u5⟩),.(by obtain⟨a,e,⟨xs,hq⟩,q⟩:=q1;subst e;cases r1),∀{pl:?o3}(he:?x8)(c:?n6)(hm:pV X.K C m f),a,∀{ta:TA}{p pos:Pos}(hg:Gl X ?eS)(hm:X.mg ?eS=none),a,∀{P:?O}{vs:?o}{i:Nat}{m:?bY},a,.(by rcases Dz hb with⟨j,u,rfl,e⟩|⟨y,u,rfl,e⟩),∀(hg:?nQ)(hm:?kO)(hv:?iO=?w),a,.(by obtain⟨σ7,H7,I7,n7⟩:=q7;exact again I7 n7),.(by refine ?oW),∀{g':?hZ GenState}{t':Nat}{d':Drawn}{ch:?E},a,∀{h:Heap}{a:Addr}{items:?bM}(x:Mm h a ?dL),a,.(by have e:b=s1.heap.objs.size:=?j8),∀{pl:?o3}{Q:Value × ?o->?bX},a,.(by obtain⟨m,⟨o,es,ep,ho,r⟩,_⟩:=id ?f9),∀(h:ta σ H fun x H1=>tb σ H1 fun y H2=>?v2),a,∀(k:∀b u,?vP),a,∀(hp:PassesOwn ?g X.A ?f ?i),a,∀{binds:?iS}{m:?bY},a,∀(x:V)(lo:?a9)(hi:?a9)(H:Hp)(Q:VK),a,∀(r:?i2),a,∀{X:Cx}{CX:qH}{k:Nat}{f C:Addr}{fd:FuncData},a,∀(σ':St) (H':Hp) (i:?sV),a,∀(hh:?rO),a,∀{X:Cx}{a b c:Expr}{ta tb tc:TE},a,∀{vl vu:Value}{lo hi:?a9},a,∀(hm:?jA),a,∀{l:Expr}{tl:TE}(hl:?B4 l tl),a,@(?d ?g X.A ?a ?b ?i s),@(fun σ H Q=>?a σ H fun x H1=>?b),@(["enumerate","zip","dict_itemiterator","dict_reverseitemiterator","odict_iterator","itertools.zip_longest","itertools.pairwise"].contains ?a),@(HM CX P w K mg ?aT N ?b9 ?bJ f ?a A ?K s H E),@(?a Af s1 σ H1 ?b I1 q1),@(Bp X Af σ ?a ?b),@(?d ?a A ?b Q E s),@(qq9 (h₀:=X.base) ?m2 ?a (Du (ha pos Af s σ H _ I h) fun us s1 ⟨vs,H1,I1,r,q⟩=>⟨I1.kIn,?_⟩) he hpl),@(?a (Du (ha pos Af s σ H _ I h) fun us s1 ⟨vs,H1,I1,r1,q1⟩=>hc Af s1 σ H1 vs us Q I1 r1 q1) he hpl),@(X.s₀.heap.objs.size<=?a),@(?a (Du (h pos Af s σ H _ I hq) fun us s1 ⟨xs,H1,I1,r,z,q⟩=>⟨by rw[←r.length];exact z,?_⟩)),@((?a).go i H/\∃N:?L,?gP/\∀x H',(?b).yld i H x H'->?hH),@(?a Af s σ H _ I ?b),@(JG (s:=?fN) e c d ?bT ⟨x,H,I1,ru,⟨rfl,fun ys hy=>by rw[?a hy hq];exact hx⟩,st',?mG⟩),@(qa7 (m:=Builtin.Tuple.tupleExact _) (qm3 (?a ?b) jE)),@(sp (?k x::?cI) (upd (upd ?a dx (.own x)) x (.ins C dx [])) (fun v H2=>v=?D/\Q ?dD H2) E),@(?aG (?bA ?a m apos) ?b [] pos),@(?a fun _ _ _ _ _ _ _ q=>?b q),@(zG ha hb I h fun v u s2 x y H2 I2 rx ry q=>ho Af s2 σ H2 x y v ?a Q I2 rx ry q),@((items.toList.drop (?aY)).take (?cV-?a)),@(?a->Hp->(?b)->Prop),@(OpR X ?a (wW fun i j=>.bl ?b)),@(?qN p ?a ho hc hd (fun h' c' kp e=>fin its r' hz h' c' kp e) ?eF),@(?fR (t':=s.toks) (o:=?a ?b) (?iB) ?G ?_),@(?aG (?cC ?a p) ?b [] pos),@(?c0 ?a ?a1 "__setattr__"=?c (?c (?c4 "object.__setattr__"))),@(PE X (?hY ?a j pos) (tC ?b)),@(?iR pos f first (?cD pos ?a) ?h0),@(?C ⟨?a,?iW,fun σ' H' p'=>⟨?b-?fD,O9m,rfl,hlt,p'⟩,?y0⟩),@(∀[?zL],(∀v,(x,v) ∉ binds)->?a ?aU binds m x=m x),@(∀p,?l1->Q ?dK (upd H p (?a ?b))),@(?a (i:=i) (qi5.mp nd).2 (?o2) (by simpa using h2) hk),@(W.fnOf ?M ?b9 params body ?bJ dV kV doc pm an Ds ?a),@(?d _ _ ?a _ _ s),@(?c { cls:=?aO,data:=?d6 ?a }),@(fun _ _ _ H _ I h=>?a ?b),@(F0 X (?c4 ?a) (fun xs H Q=>∃i j,xs=?mW/\Q (?j ?b) H)),@(EP X Af σ Q ?a ?b),@(?a (Cs I q (?cH not ?b))),@(sc.names.lookup x=?a),@(fun _ _ _ _ _ st h=>?a st h),@(?c0 K ?a1 ?a),@(show ?a from r),@((?a (?cU)).take (?hC-?cU)),@(by cases op<;>first | rfl | exact ?F rfl ?a),@(PE X ?a ?b),@(fun x y H Q=>?a),@(by rw[I.ok.glob];exact I.mod.glob.keeps ?a),@(?a { cls:=?dT,data:=?a6 ?b }),@(⟨?cO,?tW,_,_,H1,rfl,?sG,?a a _,?wR,?f4,q⟩),@(fun b ps q=>⟨#[],by rw[Ak ?a,q];simp⟩),@(NP X Af ?a s'),@(?a c o (I.cne x c e) hc bS ho (?bD x c e)),@(fun σ H Q=>t σ H fun xs H1=>?a Q xs H1),@(Wp P w K tg (?a) [it] it (fun i h=>?b it a i)),@(Un fs ex H ?a h ?b),@(?F (qb4 ?a ?b) ?eV),@(?a b o e n hb ?b),@(⟨?k ?cO,upd H1 ?cO ?a,?x9,rfl,q _ hf⟩),@(ho Af s2 σ H2 x y v u ?a I2 r1 r2 q2),@(∀l,?xI->Q (?k l) (upd H l (?a ys))),@(∀[?aL][?B] (n:Nat),?V->?u (?a n) (?b n)),@(PW X (?aC .And ?a pos) ?b),@(OpR X ?a ?b),@(?a<=sizeLine),@(fun b u q n _=>by rw[Ak ?a];exact n),@(show ?a a ?aP from p),@(PW X (?aC .Or ?a pos) ?b),@(A.under (?c4 ?sS ⟨?gG::?a,kw⟩)),@(?m1 (t':=s.toks) ?a f0 f1 f3 f4 f5),@(⟨(hs.2 p.1 ?a).trans e,n,ne,nf,d⟩),@(fun σ H R=>ta σ H fun vs H1=>?a),@(fun i H x H'=>H'=H/\∀xs,?a->?dN),@(fun σ H R=>tl σ H fun x H1=>?a),@((?aE b ?a e).stay ?b (fun _ q=>q) ?eN),@(⟨?a,H1,I1,rfl,q1⟩),@(∀x c,?bL->c≠?a),@(qs9 (Jt ?a hg hm hv ?_ hn hdb)),@(?d ?g X.A ?a Q E s),@((BZ h H).get? b=?a),@((?a).stop i H/\?cL),@(∀p,?xU->Q ?dK (upd H1 p ?a)),@(∀[?aL][?B] (i:Nat),?V->?u ?a ?b),@(fun _ H Q=>Q ?a H),@(by rw[hk];exact⟨_,I',?a⟩),@(PT X (?hP a [op] [b] pos) (?a ?b)),@(?a ?aU ?j0 m ?b=_),@(∀[?r] (D:Ends),?l->?uO->?zV (?a st ?f) (SP X Af D)),@(?l->?e1->?zV ?a (?b X Af σ Q)),@(fun v s₁=>?d ?g X.A (?k6) ?a ?i s₁),@(PE X (?AJ x ?aB) ?a),@(PE X (?AB o ?a) (IL C m sp dvs E ta ?b)),@(?a st ?b (x:=u) (by simpa using hu) ?sP),@(?a3 ?a ?f),@(fun b o _ hb _ e n=>?BG ?a ?S),@(⟨?fX,_,?AI ?a (?fK),rfl,?lA⟩),@(H ?a=none),@(fun i j=>?j ?a),@(fun u s₂=>?d ?g X.A ?a ?b ?i s₂)])
theorem O9m{p:Prop}(h:p:=by omega):p:=h
def qa0:=@List.getElem?_eq_getElem
def qa1:=@Nat.le_refl
def qa2:=@List.length_map
def qa3:=@List.getElem?_eq_some_iff
def qa4:=@List.getD_eq_getElem?_getD
def qa5:=@Nat.le_trans
def qa6:=@PySem.Heap.get?_push_of_some
def qa7:=@PySem.wpAny_bind
def qa8:=@List.getElem?_map
def qa9:=@Nat.zero_le
def qb0:=@List.map_append
def qb1:=@List.length_append
def qb2:=@Int.natAbs_mul
def qb3:=@PySem.Heap.lt_size
def qb4:=@Nat.lt_of_lt_of_le
def qb5:=@Nat.mul_le_mul_right
def qb6:=@List.mem_of_getElem?
def qb7:=@List.mem_cons
def qb8:=@List.getElem?_append_left
def qb9:=@PySem.PassesOwn.never
def qc0:=@Nat.lt_of_le_of_lt
def qc1:=@List.length_take
def qc2:=@PySem.Heap.get?_push_size
def qc3:=@List.size_toArray
def qc4:=@List.getElem?_append_right
def qc5:=@List.length_cons
def qc6:=@PySem.wpAny_pure
def qc7:=@Int.natAbs_neg
def qc8:=@Bool.and_eq_true
def qc9:=@Nat.ne_of_lt
def qd0:=@List.mem_cons_of_mem
def qd1:=@Int.one_mul
def qd2:=@List.take_length
def qd3:=@List.getElem_mem
def qd4:=@Nat.le_of_lt
def qd5:=@List.map_cons
def qd6:=@Bool.false_ne_true
def qd7:=@of_decide_eq_true
def qd8:=@Nat.pow_add
def qd9:=@PySem.F.plainAttrs_list
def qe0:=@List.mem_range
def qe1:=@Option.some.inj
def qe2:=@Nat.mul_le_mul_left
def qe3:=@List.mem_cons_self
def qe4:=@Int.toNat_natCast
def qe5:=@List.not_mem_nil
def qe6:=@Int.mul_assoc
def qe7:=@Nat.pow_le_pow_right
def qe8:=@Nat.le_add_right
def qe9:=@List.all_eq_true
def qf0:=@Nat.mul_le_mul
def qf1:=@PyProof.Rows.callWith_type1
def qf2:=@List.mem_map
def qf3:=@Int.mul_zero
def qf4:=@Int.natAbs_add_le
def qf5:=@List.take_succ
def qf6:=@Nat.one_mul
def qf7:=@Int.mul_comm
def qf8:=@Nat.add_mul
def qf9:=@PySem.boot_len
def qg0:=@Nat.lt_or_ge
def qg1:=@List.mem_append_right
def qg2:=@List.length_filter_le
def qg3:=@List.filter_append
def qg4:=@decide_eq_true
def qg5:=@Decidable.byContradiction
def qg6:=@List.length_drop
def qg7:=@Nat.pow_succ
def qg8:=@List.length_singleton
def qg9:=@List.getElem?_eq_none
def qh0:=@Int.fdiv_eq_ediv_of_nonneg
def qh1:=@Nat.le_of_not_lt
def qh2:=@List.length_nil
def qh3:=@PySem.wpAny_field
def qh4:=@Int.natAbs_ediv_le_natAbs
def qh5:=@Nat.sub_self
def qh6:=@Nat.pow_lt_pow_right
def qh7:=@List.getElem?_of_mem
def qh8:=@PySem.F.type_list_append
def qh9:=@PySem.F.slot_list_append
def qi0:=@Nat.le_mul_of_pos_right
def qi1:=@List.filter_cons
def qi2:=@PySem.wpAny_setField_rec
def qi3:=@PySem.Heap.size_push
def qi4:=@Nat.le_antisymm
def qi5:=@List.nodup_cons
def qi6:=@List.length_set
def qi7:=@List.getElem?_take
def qi8:=@Nat.succ_le_succ
def qi9:=@List.length_eraseIdx_of_lt
def qj0:=@Option.map_eq_some_iff
def qj1:=@List.replicate_succ
def qj2:=@List.length_range
def qj3:=@PySem.W.mg_none_of
def qj4:=@decide_eq_false
def qj5:=@List.mem_append
def qj6:=@Int.zero_mul
def qj7:=@Int.mul_le_mul_of_nonneg_right
def qj8:=@PySem.wpAny_truthy_bool
def qj9:=@Int.mul_ediv_cancel_left
def qk0:=@Int.emod_lt_of_pos
def qk1:=@Nat.lt_of_not_le
def qk2:=@List.take_append_of_le_length
def qk3:=@Int.eq_ofNat_of_zero_le
def qk4:=@Int.mul_nonneg
def qk5:=@beq_eq_false_iff_ne
def qk6:=@List.getElem_of_mem
def qk7:=@Nat.one_le_two_pow
def qk8:=@Nat.ne_of_gt
def qk9:=@List.length_replicate
def ql0:=@Int.le_of_dvd
def ql1:=@PySem.wpAny_call_entry
def ql2:=@List.getElem?_set_ne
def ql3:=@List.range_succ
def ql4:=@List.mem_filter
def ql5:=@List.flatten_cons
def ql6:=@List.find?_cons
def ql7:=@List.filter_nil
def ql8:=@Int.emod_nonneg
def ql9:=@Nat.le_of_eq
def qm0:=@List.map_map
def qm1:=@List.getElem?_range
def qm2:=@List.any_cons
def qm3:=@PySem.wpAny_newObj_type
def qm4:=@Int.mul_le_mul_of_nonneg_left
def qm5:=@Nat.le_mul_of_pos_left
def qm6:=@List.take_of_length_le
def qm7:=@Bool.eq_iff_iff
def qm8:=@PySem.wpAny_seqItems
def qm9:=@Nat.lt_trichotomy
def qn0:=@PySem.wpAny_pyIter_tuple
def qn1:=@PySem.Calls.spliced_cons
def qn2:=@List.mem_of_mem_take
def qn3:=@List.mem_append_left
def qn4:=@PySem.wpAny_passesOwn
def qn5:=@List.mem_or_eq_of_mem_set
def qn6:=@Classical.byContradiction
def qn7:=@List.any_eq_true
def qn8:=@PySem.mem_of_lookup
def qn9:=@Nat.le_succ
def qo0:=@List.mem_map_of_mem
def qo1:=@List.map_congr_left
def qo2:=@Int.neg_neg
def qo3:=@Int.neg_mul
def qo4:=@PySem.F.slot_tuple_iterator_next
def qo5:=@PySem.W.kia_one
def qo6:=@Nat.lt_irrefl
def qo7:=@List.nil_append
def qo8:=@List.map_take
def qo9:=@List.map_drop
def qp0:=@List.append_nil
def qp1:=@PySem.wpAny_mono
def qp2:=@List.getElem?_set_self
def qp3:=@decide_eq_true_eq
def qp4:=@List.ext_getElem?
def qp5:=@Int.mul_one
def qp6:=@PySem.W.methodCall_KW
def qp7:=@Int.zero_add
def qp8:=@Nat.mul_lt_mul''
def qp9:=@List.lookup_cons
def qq0:=@List.eq_nil_of_length_eq_zero
def qq1:=@PySem.Calls.callWith_builtin
def qq2:=@Nat.lt_two_pow_self
def qq3:=@List.of_mem_zip
def qq4:=@Int.mul_eq_zero
def qq5:=@PySem.F.slot_enumerate_next
def qq6:=@Bool.or_eq_true
def qq7:=@Nat.mul_lt_mul_of_pos_left
def qq8:=@Nat.le_of_mul_le_mul_right
def qq9:=@PySem.W.callWith_K
def qr0:=@List.mem_singleton
def qr1:=@List.getElem?_drop
def qr2:=@Bool.false_eq_true
def qr3:=@PySem.wpAny_holding
def qr4:=@Nat.le_of_mul_le_mul_left
def qr5:=@PySem.F.type_list_insert
def qr6:=@PySem.F.slot_list_insert
def qr7:=@PySem.F.args_tuple_add_2
def qr8:=@List.take_add_one
def qr9:=@List.getElem?_set
def qs0:=@List.foldl_append
def qs1:=@List.append_assoc
def qs2:=@Int.not_lt
def qs3:=@Int.dvd_mul_of_dvd_right
def qs4:=@PySem.F.plainAttrs_dict
def qs5:=@PySem.F.entry_tuple_add
def qs6:=@Nat.add_assoc
def qs7:=@List.getElem?_replicate
def qs8:=@List.getElem?_cons_zero
def qs9:=@PySem.wpAny_Call_Name_kw
def qt0:=@Nat.succ_ne_self
def qt1:=@PySem.F.slot_tuple_add
def qt2:=@Int.fmod_nonneg_of_pos
def qt3:=@PySem.wpAny_pyIter_list
def qt4:=@PySem.wpAny_pyIter_enum
def qt5:=@PySem.F.slot_dict_pop
def qt6:=@PySem.F.slot_dict_get
def qt7:=@Nat.zero_add
def qt8:=@Nat.lt_trans
def qt9:=@List.map_nil
def qu0:=@Int.natAbs_dvd_natAbs
def qu1:=@Int.le_trans
def qu2:=@PySem.Calls.spliced_nil
def qu3:=@PySem.W.mg_of
def qu4:=@List.replicate_succ'
def qu5:=@PySem.wpAny_pyIter_zip
def qu6:=@PySem.W.plainGet_of
def qu7:=@PySem.F.slot_dict_itemiterator_iter
def qu8:=@Nat.add_le_add_left
def qu9:=@List.filter_sublist
def qv0:=@List.filterMap_cons
def qv1:=@Array.length_toList
def qv2:=@PySem.wpAny_execs_nil
def qv3:=@List.mem_replicate
def qv4:=@Int.fmod_lt_of_pos
def qv5:=@Int.dvd_trans
def qv6:=@PySem.F.slot_zip_next
def qv7:=@beq_iff_eq
def qv8:=@PyProof.Rows.slot_tuple_getitem
def qv9:=@List.nodup_append
def qw0:=@List.filter_congr
def qw1:=@PySem.Calls.evalArgs_plain
def qw2:=@Nat.sub_zero
def qw3:=@Nat.pow_zero
def qw4:=@Nat.min_self
def qw5:=@Nat.add_comm
def qw6:=@Int.add_zero
open PySem in
noncomputable abbrev Am:=?n (?n Int)
open PySem in
noncomputable abbrev Bl:=?n (?qY)
open PySem in
noncomputable abbrev Q5:=?hZ (?eI)
open PySem in
noncomputable abbrev OAddr:=?aA Addr
namespace L2
open PySem PySem.Spec PyProof.Rows
noncomputable abbrev Key:=Sum Int Str
noncomputable def aK:Key->?R->?dY
 | ?m k,v=>Value.isInt k v
 | ?dR,v=>Value.isStrOf x v
noncomputable def A40(w:World):Key->Int
 | ?m k=>hashInt k
 | ?dR=>hashStr w x
theorem Dz:∀{k:Key}{v:Value},aK k v=true->(∃i t,k=?hU i/\v=Value.int i t)\/(∃x t,k=?iG x/\v=Value.str x t)
 | ?hQ,v,h=>by
   obtain⟨t,e⟩:=Value.isInt_shape (k:=i) (v:=v) h;exact ?m ⟨i,t,rfl,e⟩
 | ?dR,v,h=>by
   obtain⟨t,e⟩:=Value.isStrOf_shape (x:=x) (v:=v) h;exact ?C ⟨x,t,rfl,e⟩
theorem lE(i:Int)(t:Tok):aK (?hQ) ?iK=true:=by simp[aK,Value.isInt]
theorem LD(x:Str)(t:Tok):aK (?dR) (.str x t)=true:=by simp[aK,Value.isStrOf]
theorem yC(a b:Int):?P (?qD)=(a==b):=by
 by_cases e:a=b
 . subst e;simp
 . have h:¬?qD:=fun q=>e (Sum.inl.inj q);rw[qj4 h];exact(qk5.mpr e).symm
theorem XZ(a b:Str):?P (?tK)=?P (a=b):=by
 by_cases e:a=b
 . subst e;simp
 . have h:¬?tK:=fun q=>e (Sum.inr.inj q);rw[qj4 h,qj4 e]
theorem YB(a:Int)(b:Str):?P (?wD=?iG b)=false:=qj4 (fun q=>nomatch q)
theorem YA(a:Str)(b:Int):?P (?uH=?hU b)=false:=qj4 (fun q=>nomatch q)
noncomputable def mixKind[?oL]:PySem.KeyKind prog w Key where
 is:=aK
 hash:=A40 w
 inj:=fun v a b ha hb=>by
  rcases Dz ha with⟨i,t,rfl,rfl⟩|⟨x,t,rfl,rfl⟩
  . ext z9
    . injection e with e1 _;rw[e1]
    . exact ?gW
  . ext z9
    . exact ?gW
    . injection e with e1 _;rw[e1]
 byValue:=fun k v h=>by
  rcases Dz h with⟨i,t,rfl,rfl⟩|⟨x,t,rfl,rfl⟩<;>rfl
 pyHash:=fun hv h=>by
  rcases Dz hv with⟨i,t,rfl,rfl⟩|⟨x,t,rfl,rfl⟩
  . exact wpAny_pyHash_int h
  . exact wpAny_pyHash_str h
 eqBool:=fun hu hv h=>by
  rcases Dz hu with⟨i,t,rfl,rfl⟩|⟨x,t,rfl,rfl⟩
  . ext z3
    . rw[yC]at h;exact wpAny_eqBool_int h
    . rw[YB]at h;exact SeqAt.EqAt.int_str i t y u _ _ _ _ h
  . ext z3
    . rw[YA]at h;exact SeqAt.EqAt.str_int x t j u _ _ _ _ h
    . rw[XZ]at h;exact wpAny_eqBool_str h
 «strs»:=fun k x t v h=>by
  rcases Dz h with⟨i,u,rfl,e⟩|⟨y,u,rfl,e⟩
  . exact ?gW
  . injection e with e1 _;subst e1;cases v<;>rfl
theorem EG[?oL](i:Int)(t:Tok):?tQ (?hQ) ?iK=true:=lE i t
theorem eG[?oL](x:Str)(t:Tok):?tQ (?dR) (.str x t)=true:=LD x t
inductive V where
 | non | bl (b:Bool) | int (i:Int) | str (x:Str) | byt (b:?qB) | flt (b:UInt64) | ref [?b5] | ty (n:String)
 deriving DecidableEq
noncomputable abbrev rS[?b5]:?fP:=?c ?dO
noncomputable abbrev iS(i:Int):?fP:=?c (?aH)
noncomputable def RelV:V->?R->Prop
 | ?D,u=>?qZ
 | ?hI,u=>u=Value.bool b
 | ?aH,u=>?w3
 | ?dV,u=>?vI
 | .byt b,u=>?s1
 | .flt b,u=>?tR
 | ?a7,u=>?fO
 | .ty n,u=>u=Value.type n
noncomputable abbrev Vals:?A->?o->Prop:=?eO ?aQ
theorem Vals.length[?aL][?B](r:?V):xs.length=us.length:=Paired.length r
theorem Vals.get:∀[?aL][?B]{i:Nat}{x:V},?V->?dN->∃u,us[i]?=?w/\?cW
 | _,_,_,_,?v,e=>by simp at e
 | _,_,0,_,?H r _,e=>by simp at e;subst e;exact ?wA
 | _,_,i+1,x,?hW,e=>by
   obtain⟨u,h1,h2⟩:=Vals.get (i:=i) (x:=x) t (by simpa using e);exact⟨u,?o2,h2⟩
theorem Vals.set{x:V}[?T](r:?cW):?C5 (xs.set i x) (us.set i u)
 | _,_,_,?v=>?v
 | _,_,0,?hW=>?dJ
 | _,_,i+1,?H q t=>?H q (Vals.set r i t)
theorem Vals.append:∀[?jZ]{us ws:?o},?V->?u ys ws->?u (xs++ys) (us++ws)
 | _,_,_,_,?v,s=>s
 | _,_,_,_,?dJ,s=>?H r (?u0 t s)
theorem Vals.take:?BK xs.take us.take
 | _,_,0,_=>?v
 | _,_,_+1,?v=>?v
 | _,_,n+1,?dJ=>?H r (Vals.take n t)
theorem Vals.drop:?BK xs.drop us.drop
 | _,_,0,r=>r
 | _,_,_+1,?v=>?v
 | _,_,n+1,?hW=>Vals.drop n t
noncomputable def Os:?fP->?eI->Prop
 | ?J,?w=>?bF
 | none,none=>True
 | _,_=>False
noncomputable def KV{κ:Type}:?n (κ × V)->?n (?t7)->Prop:=?eO fun(p:κ × V) (q:?t7)=>p.1=q.1/\?aQ p.2 q.2
noncomputable def kV:Key->V
 | ?hQ=>?aH
 | ?dR=>?dV
inductive HO where
 | lst [?aK]
 | tup [?aK]
 | dK (kvs:?n (Key × V)) | dT (kvs:?n (?oZ))
 | set (S:?y1) (n:Nat)
 | ins (C dx:Addr) (fs:?bN)
 | own (x:Addr)
 | xd (fs:?bN)
 | met (f x:Addr)
 | rng (lo hi:Int)
 | frz (o:Obj) (u:HO)
 | tbl (ps:?bM)
 | ext (φ:?wL)
noncomputable abbrev Hp:=Addr->?aA HO
noncomputable def upd(H:Hp)[?b5](o:HO):Hp:=fun b=>if b=a then ?s else H b
theorem Ab{H:Hp}[?bS]{o:HO}:upd H a o a=?s:=by unfold upd;rw[?N rfl]
theorem Ak{H:Hp}{a b:Addr}{o:HO}(h:b≠a):upd H a o b=H b:=by unfold upd;rw[?t h]
theorem E6{H:Hp}{a b:Addr}{o u:HO}(h:?gT)(h':?mF)(d:o≠u):a≠b:=by
 intro e;subst e;rw[h]at h';exact d (qe1 h')
theorem Ar{H:Hp}{a b:Addr}{o:HO}(h:?gT)(h':?I):a≠b:=by
 intro e;subst e;rw[h]at h';cases h'
noncomputable def Mm[?b6][?b5](items:?bM):Prop:=∃o,?h5/\?o4/\?mL/\∃n,o.data=?a6 ?dL n
theorem Mm.tup[?zE]:?f3 h a ?dL:=let ⟨o,e,c,_,d⟩:=x;⟨o,e,c,d⟩
theorem Mm.lt[?zE]:?lE:=x.tup.lt
theorem Mm.new[?b6](items:?bM):Mm (?B7 h.push ?dL) ?u7 ?dL:=?s3
section
variable[?cY]
noncomputable def ObjOk(H:Hp)[?b6][?b5]:HO->Prop
 | ?aW xs=>?cE/\∃(its:?o) (n:Nat),?eG/\?aN=?c ?gK
 | ?aS xs=>?cE/\∃its:?o,?eG/\Mm h a ?aP
 | .dK kvs=>?uL/\?rM/\∃vs,KV kvs vs/\h.DictOf (mixKind P w) a vs
 | .dT kvs=>?uL/\?rM/\∃xs:?n (?vM),
    ?eO (fun(p:?oZ) (q:?vM)=>p.1=q.1/\H q.2.1=?c (?aS (p.1.map kV))/\?aQ p.2 q.2.2) kvs xs ∧
    ∃o es ep,?h5/\o.ExactDict/\o.data=.dict es ep/\es.toList=xs.map (entryOfKey (tupleKind (mixKind P w)))/\(xs.map (·.1)).Nodup
 | ?uG=>h.SetOf (intKind P w) a S n
 | ?kU=>?uK/\?sJ/\dx≠a/\?aN=?c (?hR C dx) ∧
    ∃mA,?n7/\(?nA)/\?n8 mA (?iD (·.1))
 | .own _=>?uI
 | .xd fs=>∃mA,h.Ns1 a mA/\?nA
 | .rng lo hi=>∃t u v,?aN=?c ?l7
 | ?rY=>?h5/\?aF H h a u
 | .tbl ps=>?aN=?AT ps
 | .met f x=>?aN=?c (?lD ?a4 ?dD)
 | .ext φ=>φ h/\(?uI)/\∀h1 h2:Heap,φ h1->(∀o,h1.get? a=?s->h2.get? a=?s)->φ h2
noncomputable def Q2(H:Hp)[?b6]:Prop:=∀a o,?gT->?m8
universe e9
section
variable[?b2]{H H':Hp}{h h':Heap}[?bS]{o:HO}
theorem ObjOk.lt(x:?m8):?lE:=by
 cases o with
 | lst xs=>obtain⟨_,_,_,_,e⟩:=x;ext b4
 | tup xs=>obtain⟨_,_,_,p⟩:=x;exact p.lt
 | dK kvs=>obtain⟨_,_,_,_,o,_,_,e,_⟩:=x;ext b4
 | dT kvs=>obtain⟨_,_,_,_,o,_,_,e,_⟩:=x;ext b4
 | set S n=>obtain⟨o,_,_,_,e,_⟩:=x;ext b4
 | ins C dx fs=>obtain⟨_,_,_,e,_⟩:=x;ext b4
 | own y=>obtain⟨_,e⟩:=x;ext b4
 | xd fs=>obtain⟨_,⟨_,_,_,e,_⟩,_⟩:=x;ext b4
 | rng lo hi=>obtain⟨_,_,_,e⟩:=x;ext b4
 | frz ob u=>obtain⟨e,_⟩:=x;ext b4
 | tbl ps=>exact qb3 (show ?aN=?c _ from x)
 | met f y=>exact qb3 (show ?aN=?c _ from x)
 | ext φ=>obtain⟨_,⟨_,e⟩,_⟩:=x;ext b4
theorem Paired.mapP{α β:Type}{F G:α->β->Prop}:∀{l₁:?h7}{l₂:?n β},?eO F l₁ l₂->(∀a b,F a b->G a b)->?eO G l₁ l₂
 | _,_,?v,_=>?v
 | _,_,?dJ,f=>?H (f _ _ r) (?qK t f)
theorem ObjOk.stay(x:?m8)(k:∀b u,(b=a\/H b=?i5)->?mM)
 (ho:∀b,H b=?i5->H' b=?i5) (ht:?kX):?aF P w H' h' a o:=by
 induction o with
 | lst xs=>obtain⟨z,its,n,r,e⟩:=x;exact⟨z,its,n,r,?aI⟩
 | tup xs=>obtain⟨z,its,r,ob,e,c⟩:=x;exact⟨z,its,r,ob,?aI,c⟩
 | dK kvs=>obtain⟨z,y,vs,r,ob,es,ep,e,c⟩:=x;exact⟨z,y,vs,r,ob,es,ep,?aI,c⟩
 | dT kvs =>
   obtain⟨z,y,xs,r,ob,es,ep,e,c⟩:=x;exact⟨z,y,xs,?qK r fun p q z=>⟨z.1,ht _ _ z.2.1,z.2.2⟩,ob,es,ep,?aI,c⟩
 | set S n=>obtain⟨ob,es,ep,t,e,c⟩:=x;exact⟨ob,es,ep,t,?aI,c⟩
 | ins C dx fs =>
   obtain⟨d,z,ne,e,mA,⟨od,es,ep,e2,c⟩,r⟩:=x;exact⟨ho _ d,z,ne,?aI,mA,⟨od,es,ep,k _ _ (?C d) e2,c⟩,r⟩
 | own y=>obtain⟨ob,e⟩:=x;exact⟨ob,?aI⟩
 | xd fs=>obtain⟨mA,⟨od,es,ep,e,c⟩,r⟩:=x;exact⟨mA,⟨od,es,ep,?aI,c⟩,r⟩
 | rng lo hi=>obtain⟨t,u,v,e⟩:=x;exact⟨t,u,v,?aI⟩
 | frz ob u ih=>obtain⟨e,q⟩:=x;exact⟨?aI,ih q⟩
 | tbl ps =>
   have e:?aN=?AT ps:=x;show ?dU a=?AT ps;exact ?uU
 | met f y =>
   have e:?aN=?c (?lD ?a4 (?k y)):=x;show ?dU a=?c (?lD ?a4 (?k y));exact ?uU
 | ext φ=>obtain⟨p,⟨o,e⟩,st⟩:=x;exact⟨st _ _ p fun o q=>k _ _ ?dP q,⟨o,?aI⟩,st⟩
theorem Q2.lt[?gC](e:?gT):?lE:=(x a o e).lt
theorem Q2.fresh[?gC](e:?mP):?kE:=by
 cases q:H a with
 | none=>rfl
 | some u=>exact ?BF (x.lt q) e
theorem Q2.kept[?gC][?jI]:Q2 P w H h':=fun a o e =>
 (x a o e).stay (fun b u _ q=>?h6) (fun _ q=>q) ?eN
theorem Q2.laid[?gC][?jI](hp:?mP)(new:?aF P w ?eY h' a o):Q2 P w ?eY h':=fun b u e=>by
 have hn:=x.fresh hp;by_cases hb:b=a
 . subst hb;rw[Ab]at e;cases e;exact new
 . rw[Ak hb]at e;exact(x b u e).stay (fun c v _ q=>k c v q) (fun c q=>?hK) fun c xs q=>?hK
universe e9
noncomputable def Rd(H:Hp)[?b5](u:HO):Prop:=H a=?w\/∃o,H a=?mD
theorem Rd.ok[?b2]{H:Hp}{h:Heap}[?bS]{u:HO}(r:Rd H a u)[?gC]:?aF P w H h a u:=by
 rcases r with r|⟨o,r⟩
 . exact x a u r
 . obtain⟨_,q⟩:=x a _ r;exact q
noncomputable def Mut:?aA HO->Prop
 | ?c (?aW _)=>True
 | ?c (.dK _)=>True
 | ?c (.dT _)=>True
 | ?c (.set _ _)=>True
 | ?c (.ins _ _ _)=>True
 | ?c (.ext _)=>True
 | _=>False
section
variable[?b2]{H:Hp}{h h':Heap}{x e:Addr}{o':HO}
theorem Q2.write(ok:?nS)[?yG]
 (new:?aF P w (upd H x o') h' x o'):Q2 P w (upd H x o') h':=fun b u q=>by
 have Ah5:∀c y,H c=?c (.own y)->c≠x:=fun c y r z=>?xY
 have A20:∀c xs,H c=?hG->c≠x:=fun c xs r z=>?xY
 by_cases hb:b=x
 . subst hb;rw[Ab]at q;cases q;exact new
 . rw[Ak hb]at q;by_cases yO:b=e
   . have q':H b=?c (.own x):=by
      rcases he with z | z
      . exact ?F (yO.trans z) hb
      . rw[yO];exact z
     rw[q]at q';cases q';obtain⟨v,hv⟩:=zY;exact⟨v,by rw[yO];exact hv⟩
   . refine(ok b u q).stay (fun c v hc r=>k c v ?_ r) (fun c r=>by rw[Ak (Ah5 c b r)];exact r) fun c xs r=>by rw[Ak (A20 c xs r)];exact r
     rcases hc with rfl | hc
     . exact yO
     . rintro rfl;rcases he with z | z
       . exact Ah5 c b hc z
       . rw[hc]at z;cases z;exact hb rfl
universe e9
structure Un(fs ex:?E)(H H':Hp)(h h':Heap):Prop where
 keep:∀b o,?b8->?I->b ∉ fs->?f7->?jC
 slot:∀b o,?b8->?I->b∈fs->?f7->?w9
 free:∀b o,?b8->?I->?f7->?gS
 there:∀b o,?b8->?f7->?vF
 tups:?kX
 frzs:?pI
 tbls:?qL
section
variable{fs fs' ex ex':?E}{H H1 H2:Hp}{h h1 h2 h':Heap}{a x e:Addr}{o:HO}
theorem Un.any(u:?BE H1 h1){b:Addr}{ob:Obj}(q:?gU=?c ob)(n:?I)(hx:?f7):∃sl,h1.get? b=?c { ob with slots:=sl }:=by
 by_cases hb:b∈fs
 . exact u.slot b ob q n hb hx
 . exact⟨?pO,?kI b ob q n hb hx⟩
theorem Un.kept[?jI]:?BE H h' :=
 ⟨fun b ob q _ _ _=>?kL,fun b ob q _ _ _=>⟨?pO,?kL⟩,fun _ _ _ n _=>n,fun b ob q _=>⟨ob,?kL⟩,?eN,fun _ _ _ q=>q,fun _ ps q=>⟨#[],by rw[q];simp⟩⟩
theorem Un.refl:?BE H h:=?m6 ?eN
theorem Un.laid[?jI](hp:?mP)(hn:?kE):?BE ?eY h' where
 keep:=fun b u q _ _ _=>?h6
 slot:=fun b u q _ _ _=>⟨u.slots,?h6⟩
 free:=?BO (qc9 (qb4 (qb3 q) hp))
 there:=fun b u q _=>⟨u,?h6⟩
 tups:=fun b xs q=>?hK
 frzs:=fun b u xs q=>?hK
 tbls:=?B9 (Ar q hn)
theorem Un.write[?yG]:?BE (upd H x o) h':=by
 have hx:∀b,?I->b≠x:=fun b n z=>by subst z;rw[n]at mu;exact mu
 have hb:∀b,?I->b≠e:=fun b n z=>by
  subst z;rcases he with r | r
  . exact hx b n r
  . rw[n]at r;cases r
 have hm:∀b u,?mF->¬Mut (?w)->b≠x:=fun b u q nm z=>by subst z;rw[q]at mu;exact nm mu
 refine⟨fun b u q n _ _=>?p2,fun b u q n _ _=>⟨u.slots,?p2⟩,?BO (hx b n),fun b u q _=>?_,
  fun b xs q=>?rU,fun b u xs q=>?rU,?B9 (hm b _ q fun z=>z)⟩
 by_cases yO:b=e
 . subst yO;exact zY
 . exact⟨u,k b u yO q⟩
universe e9
noncomputable def trk[?b6](H:Hp):?E:=(?tU ?u7).filter fun a=>(H a).isSome
noncomputable def BZ[?b6](H:Hp):Heap:=PySem.W.hideAll h (trk h H)
theorem lJ[?b6](H:Hp):(BZ h H).objs.size=h.objs.size:=PySem.W.hideAll_size _ _
theorem OT{h:Heap}{H:Hp}[?jV](e:?b8)(n:?I):?C2 ?s :=
 PySem.W.hideAll_get _ e fun hm=>by
  have q:(H b).isSome=true:=(ql4.mp hm).2;rw[n]at q;simp at q
theorem sI{h:Heap}{H:Hp}[?jV](e:?C2 ?s):?b8/\?I:=by
 have e':h.get? b=some o:=PySem.W.of_hideAll (trk h H) e;refine⟨e',?_⟩;cases q:H b with
 | none=>rfl
 | some x =>
   have hm:b∈trk h H:=ql4.mpr ⟨qe0.mpr (qb3 e'),by simp[q]⟩;have z:?C2 none:=PySem.W.hideAll_none (trk h H) hm;rw[z]at e;cases e
structure Mod[?h][?jL]:Prop where
 kin:K.In ?aT
 glob:base.Ns mainGlobals mg
 blt:∃mb,base.Ns builtinsNs mb/\∀x:Str,x≠"__name__"->mb x=?iO
 nolimit:base.NoLimit
structure Cx where
 prog:Program
 w:World
 K:PySem.W.Frag
 mg:?bY
 base:Heap
 A:Around
 N:?O
 s₀:Shared
 H₀:Hp
 env:Env
 outer:?bZ
 stack:?bZ
 ex:?E
 fn:Str->?dY
 calm:Bool
 pn:Bl
 xe:?cG
noncomputable def ML(l:?bZ):?E:=l.filterMap (·.frame)
noncomputable abbrev Cx.fs(X:Cx):?E:=ML ?iM
noncomputable def Vis(sc:Scope)(x:Str):Prop:=?AY ?cR\/?kK\/?AY ?hO
noncomputable def ZJ(sc:Scope)(x:Str):Prop:=?u3
noncomputable def Bh6(env:Env)[?b6](m:?bY)(x:Str)[?d3]:Prop :=
 (env.kindOf x=?cR/\m x=?w)\/((env.kindOf x=?eT\/env.kindOf x=?hO)/\∃c,env.cells.lookup x=?hJ/\h.IsCell c (?w))
structure Cx.Ok(X:Cx):Prop where
 mod:?xJ
 kind:X.env.scope.kind=?p6
 glob:X.env.globals=mainGlobals
 blt:X.env.builtins=builtinsNs
 above:?A4 X.env.locals
 inj:∀x y c,?bL->?m0 y=?hJ->x=y
 has:∀x,(X.env.kindOf x=?eT\/X.env.kindOf x=?hO)->∃c,?bL
 cab:∀x c,?kY->?bL->?A4 c
 hd:?j1->X.A.handled=none
 frames:X.A.frames=?c ?cT
 stk:X.stack=X.outer\/(X.stack=X.env::X.outer/\X.env.frame=?c ?gR)
 exf:∀b∈X.ex,?dC/\?q9
 bs:∀b o,?fT->?mO/\?pS
 bsz:X.base.objs.size<=X.s₀.heap.objs.size
 noex:∀b o,?fT->?vB
 exfs:∀b∈X.ex,?hM
 funs:?sU ?bV ?iM
 frf:∀b∈X.fs,?pS
structure Bp[?aJ](σ:?lF)(H:Hp)[?bQ]:Prop where
 ok:X.Ok
 os:s.os=X.s₀.os
 bare:?rB
 base:Un X.fs X.ex X.H₀ H X.s₀.heap ?p
 loc:∃m,?tN/\∀(i:Nat) (x:Str) (v:V),?gE->?sA->?uJ->∃u,?bF/\Bh6 ?f ?p m x u
 cell:∀x c,?bL->∃v,s.heap.IsCell c v
 free:?CJ ?gR
 freeC:∀x c,?bL->?CJ c
 pin:∀p∈?lO,?vR
 hok:Q2 ?W X.w H ?p
 len:σ.length=X.N.length
section
variable{X:Cx}{Af:Bl}{σ:?lF}{H H':Hp}[?bR]{h':Heap}
theorem Cx.Ok.nofr(ok:X.Ok)[?jV](e:?fT):?hM:=fun hb=>by
 have:=(ok.funs.mem hb).1;rw[e]at this;cases this
theorem Bp.bs[?e]:∀b o,?fT->?rW:=fun b o e =>
 ⟨?i4 b o (?i7).1 (?i7).2 (I.ok.nofr e) (I.ok.noex b o e),?d8 b o (?i7).1 (?i7).2 (I.ok.noex b o e)⟩
theorem Bp.bk[?e]:∀b o,?fT->?bU:=fun b o e=>(I.bs b o e).1
theorem Bp.mod[?e]:?xJ:=I.ok.mod
theorem Bp.kIn[?e]:X.K.In ?p:=I.ok.mod.kin.keeps I.bk
theorem Bp.lt[?e]:X.env.locals<s.heap.objs.size:=let ⟨_,hn,_⟩:=I.loc;hn.lt
theorem Bp.sz[?e]:?A4 s.heap.objs.size:=qa5 ?iJ (qd4 I.lt)
theorem Bp.nofs[?e][?bS](h:?sW):a ∉ X.fs:=fun hb=>by
 obtain⟨_,o,ho,_⟩:=I.ok.funs.mem hb;exact ?BF (qb3 ho) (qa5 I.sz h)
theorem Bp.cne[?e]:?BZ X.env.locals:=fun x c e z=>by
 obtain⟨v,o,ho,hd⟩:=?i3;obtain⟨m,⟨o',es,ep,ho',hd',_⟩,_⟩:=I.loc;rw[z,ho']at ho;cases ho;rw[hd']at hd;cases hd
theorem Bp.funs[?e]:?h4 ?bV ?iM:=by
 have all:∀(l:?bZ),(∀b∈ML l,?w2)->?sU ?bV l->?h4 ?bV l:=by
  intro l
  induction l with
  | nil=>intro _ _;trivial
  | cons env r ih =>
    intro hs hl;obtain⟨hk,⟨L,o,hf,hn,ho,hd⟩,hr⟩:=hl;have hL:L∈X.fs:=hs L (by unfold ML;rw[qv0,hf];exact qe3);obtain⟨sl,e⟩:=?t9 L o ho (?pQ L hL) hL fun z=>?qV L z hL;exact⟨hk,⟨L,_,hf,hn,e,hd⟩,ih (fun b hb=>hs b (by unfold ML;rw[qv0,hf];exact ?vV)) hr⟩
 exact all ?iM (fun _ hb=>hb) I.ok.funs
theorem Bp.stack[?e]:?h4 ?bV ?cT:=by
 rcases I.ok.stk with e|⟨e,hf⟩
 . rw[e];exact I.funs
 . rw[e];obtain⟨m,hn,_⟩:=I.loc;refine ?H (by rw[I.ok.kind];decide) hf hn ?_ I.funs;exact Heap.get?_none_of_le (qa5 ?pV ?iJ)
theorem Bp.stkSub[?e]:∀b∈?gF,b∈X.env.locals::X.fs:=fun b hb=>by
 rcases I.ok.stk with e|⟨e,hf⟩
 . rw[e]at hb;exact ?vV
 . rw[e]at hb;unfold ML at hb;rw[qv0,hf]at hb;exact hb
theorem Bp.stkFree[?e]:∀b∈?gF,?I:=fun b hb=>by
 rcases ?mK (?pA b hb) with e | hb
 . rw[e];exact I.free
 . obtain⟨_,o,ho,_⟩:=I.ok.funs.mem hb;exact ?d8 b o ho (?pQ b hb) fun z=>?qV b z hb
theorem Bp.step[?zD][?e]
 [?o5]
 (keep:∀b o,?dC->?hM->?fM->?bU->?I->?jC)
 (slot:∀b o,?dC->?w2->?fM->?bU->?I->?w9) (free:∀b o,?fM->?bU->?I->?gS)
 (there:∀b o,?fM->?bU->?vF)
 (tups:?kX) (frzs:?pI) (tbls:?qL)
 (ns:∀m,?tN->h'.Ns ?gR m) [?oK] (hg:?iF g') :
 ?s8:=by
 have neL:∀b o,?mO->?dC:=fun b o e=>qc9 (qb4 ?f2 ?iJ)
 have neC:∀b o,?mO->?vB->?fM:=fun b o e hx hb=>by
  rcases (hch b hb).1 with z | z
  . exact hx z
  . exact ?BF ?f2 z
 have cellK:∀x c,?bL->∀v,s.heap.IsCell c v->h'.IsCell c v:=fun x c e v ⟨o,ho,hd⟩=>by
  have bS:c ∉ ch:=?wV;by_cases hc:c∈X.fs
  . obtain⟨sl,q⟩:=?BB slot;exact⟨_,q,hd⟩
  . exact⟨o,?BB keep,hd⟩
 refine⟨I.ok,?dE,hg,⟨?j6,?j6,fun b o e n hx=>?_,?wU,fun b xs e=>tups b xs (?p0 b xs e),fun b o xs e=>frzs b o xs (?uQ b o xs e),fun b ps e=>?_⟩,?_,?q8,?_,?q8,?l9,hok,?iY⟩
 . exact keep b o (neL b o e) hb ?iC (?BG ?i4 hx) (?d8 b o e n hx)
 . ext oB;obtain⟨sl',e2⟩:=slot b _ (neL b o e) hb ?iC e1 (?d8 b o e n hx);exact⟨sl',e2⟩
 . ext jG;exact free b o' ?iC e1 (?d8 b o e n hx)
 . ext jG;exact there b o' ?iC e1
 . obtain⟨m1,e1⟩:=?wS b ps e;obtain⟨m2,e2⟩:=tbls b _ e1;exact⟨m1++m2,by rw[e2,Array.append_assoc]⟩
 . obtain⟨m,hn,hl⟩:=I.loc;refine⟨m,ns m hn,fun i x v e1 e2 e3=>?_⟩;obtain⟨u,r,l⟩:=hl i x v e1 e2 e3;refine⟨u,r,?_⟩;rcases l with l|⟨k,c,e,z⟩
   . exact ?m l
   . exact ?C ⟨k,c,e,cellK x c e _ z⟩
 . obtain⟨v,z⟩:=?i3;exact⟨v,cellK x c e v z⟩
 . obtain⟨m,⟨o,_,_,ho,_⟩,_⟩:=I.loc;exact free _ o (?tF) ho ?bC
 . obtain⟨v,o,ho,hd⟩:=?i3;exact free c o (?wV) ho (?bD x c e)
 . ext oF;have bS:p.1 ∉ ch:=fun z=>(hch p.1 z).2.2.2 p hp rfl;exact⟨keep p.1 p.2 ne nf bS e n,free p.1 p.2 bS e n,ne,nf,d⟩
theorem Bp.un{t':Nat}[?e](u:Un X.fs [] H H' ?p h')[?oK]:?A0 H' ?hX:=by
 ext zH;obtain⟨sl,hL⟩:=u.any ho ?bC ?S
 exact ?kM (g':=s.gens) (d':=s.drawn) (ch:=[]) (fun _ z=>nomatch z) (?CH ?kI) (?CH u.slot) (fun b o _ e n=>u.free b o e n ?S) (fun b o _ e=>u.there b o e ?S) u.tups u.frzs u.tbls (fun m' hm=>by
  ext yN) hok ?c6
theorem Bp.call[?zD][?e](u:Un (?gF) ch H H' ?p h')[?oK](hg:?iF g')
 [?o5] :
 ?s8:=by
 ext zH;obtain⟨sl,hL⟩:=u.any ho ?bC ?tF
 exact ?kM (ch:=ch) hch (fun b o hL hb hc e n=>?kI b o e n (fun z=>(?mK (?pA b z)).elim hL hb) hc) (fun b o _ _ hc e n=>u.any e n hc) (fun b o hc e n=>u.free b o e n hc) (fun b o hc e=>u.there b o e hc) u.tups u.frzs u.tbls (fun m' hm=>by
  ext yN) hok hg
theorem Bp.turned{t':Nat}{it:Addr}[?e](k:∀b o,b≠it->?bU->?jC)(hn:?CJ it)(hL:it≠X.env.locals)
 (h1:it∈X.ex\/?A4 it) (h2:?BZ it) (h3:∀p∈?lO,p.1≠it):?rL:=by
 have nit:∀b u,?mF->b≠it:=fun b u e z=>by rw[z,hn]at e;cases e
 refine ?kM (g':=s.gens) (d':=s.drawn) (ch:=[it]) (?f4) (fun b o _ _ hc e _=>?k3) (fun b o _ _ hc e _=>⟨o.slots,?k3⟩) (fun _ _ _ _ n=>n)
  (fun b o hc e=>⟨o,?k3⟩) (fun _ _ e=>e) (fun _ _ _ e=>e) (fun b ps e=>⟨#[],by rw[e];simp⟩) (fun m hm=>?_) (fun b u e=>?_) ?c6
 . ext jK
   subst e;exact⟨h1,hL,h2,h3⟩
 . obtain⟨o,es,ep,ho,r⟩:=hm;exact⟨o,es,ep,k _ o (?eR hL) ho,r⟩
 . refine ?BX u (fun c v hc q=>k c v ?_ q);rcases hc with z | z
   . rw[z];exact nit b u e
   . exact nit c _ z
theorem Bp.tok[?e](t:Nat):Bp X Af σ H { s with toks:=t }:=I.un (h':=s.heap) (t':=t) Un.refl ?aE
theorem Bp.kept{t':Nat}[?e][?zJ]:?rL:=I.un (?m6 k) (I.hok.kept k)
theorem Bp.laid[?bS]{o:HO}{t':Nat}[?e][?zJ](hp:?sW)(new:?aF ?W X.w ?eY h' a o) :
 ?A0 ?eY ?hX:=I.un (Un.laid k hp (?fH hp)) (I.hok.laid k hp new)
theorem Bp.write{x e:Addr}{o:HO}{t':Nat}[?e](mu:?p8)(he:?vC)(k:∀b u,b≠e->?vP)(zY:?x3)
 (new:?aF ?W X.w (upd H x o) h' x o):?A0 (upd H x o) ?hX:=I.un (Un.write mu he k zY) (I.hok.write mu he k zY new)
theorem Bp.pins_of{uS:Bl}[?e](h:∀p∈uS,?vR):Bp X uS σ H s :=
 ⟨I.ok,?dE,?c6,?l3,?f9,?cM,?bC,?bD,fun p hp=>?qR (fun z=>?dI p (qn3 _ z)) (h p),?aE,?iY⟩
theorem ED{N:?O}(hN:N.Nodup){i j:Nat}{x:Str}(a:N[i]?=?e0)(b:N[j]?=?e0):i=j:=by
 obtain⟨h1,e1⟩:=?j3 a;obtain⟨h2,e2⟩:=?j3 b;exact(List.getElem_inj hN).mp (e1.trans e2.symm)
theorem y9{M:Model}[?z][?Z][?d1]{v:V}[?T][?g9][?e][?jF][?d2]
 (h:∀s',?x0->(∃a,?mV a ?p ?e2/\(a=X.env.locals\/?m0 x=?c a))->?k5) [?e3]:?q7:=by
 obtain⟨m,hn,hl⟩:=id ?f9;have hcls:(X.env.scope.kind==.class || (X.env.scope.kind==.module&&X.env.locals != X.env.globals))=false:=by rw[I.ok.kind];rfl
 have hiσ:i<σ.length:=by rw[I.len];exact(?j3 hi).1
 have cne:=I.cne
 have tracked:∀[?bS]{h':Heap},(∃o,?aX a=?s/\?kE)->?mV a ?p h'->Q2 ?W X.w H h':=fun {a h'} ha hs b ob e=>by
  obtain⟨_,_,hfree⟩:=ha;refine ?BX ob (fun c w' hc q=>(hs.2 c ?_).trans q);rintro rfl;rcases hc with rfl | hc
  . rw[hfree]at e;cases e
  . rw[hfree]at hc;cases hc
 rcases hx with hk | hk
 . refine wpAny_storeName_local hk hn (fun h' hn' hs=>?_) hcls;obtain⟨oL,_,_,hoL,_⟩:=id hn;refine h _ ⟨I.ok,?dE,?c6,?t6,⟨_,hn',?q6⟩,fun y c e=>?_,?bC,?bD,?l9,tracked ⟨oL,hoL,?bC⟩ hs,?tX⟩ ⟨_,hs,?l4⟩
   . exact ?k7 (?BG ?i4 hx)
   . ext oB;exact⟨sl,?k7 e1⟩
   . ext jG;exact⟨o',?k7 e1⟩
   . by_cases hj:j=i
     . ext yZ;exact⟨u,r,?m ⟨hk,?aV⟩⟩
     . ext yL;rcases q with⟨k,e⟩|⟨k,c,e,z⟩
       . refine ?m ⟨k,?_⟩;have:y≠x:=fun e=>hj (ED hN e1 (e▸hi));simp[this,e]
       . exact ?C ⟨k,c,e,?uZ⟩
   . obtain⟨w',z⟩:=?cM y c e;exact⟨w',?uZ⟩
   . ext oF;exact(?BT ne)
 . have hfn:?kY:=by
    rcases hf with z | z
    . exact z
    . rw[z]at hk;cases hk
   obtain⟨c,hc⟩:=I.ok.has x (?m hk);obtain⟨w',z⟩:=?cM x c hc;refine wpAny_storeName_cell ?dQ hk hc z (fun h' hc' hs=>?_);obtain⟨oc,hoc,A66⟩:=id z;refine h ?fN ⟨I.ok,?dE,?c6,?t6,⟨m,hn.sameBut hs (?eR (cne x c hc)),?q6⟩,fun y c' e=>?_,?bC,?bD,?l9,tracked ⟨oc,hoc,?bD x c hc⟩ hs,?tX⟩ ⟨c,hs,?C hc⟩
   . exact ?kT (?BG ?i4 hx)
   . ext oB;exact⟨sl,?kT e1⟩
   . ext jG;exact⟨o',?kT e1⟩
   . by_cases hj:j=i
     . ext yZ;exact⟨u,r,?C ⟨?m hk,c,hc,hc'⟩⟩
     . ext yL;rcases q with q|⟨k,c',e,z'⟩
       . exact ?m q
       . refine ?C ⟨k,c',e,z'.sameBut hs ?_⟩;rintro rfl;exact hj (ED hN e1 (I.ok.inj _ _ _ e hc▸hi))
   . by_cases hcc:c'=c
     . subst hcc;exact⟨_,hc'⟩
     . obtain⟨w2,z2⟩:=?cM y c' e;exact⟨w2,z2.sameBut hs hcc⟩
   . ext oF;refine(?BT ?_);intro q;rw[q,hoc]at e;have q':oc=p.2:=qe1 e;exact d w' (by rw[←q'];exact A66)
theorem dF{M:Model}[?z][?Z][?d1]{v:V}[?T][?g9][?e][?jF][?d2]
 (h:∀s',?x0->?k5) [?e3]:?q7 :=
 y9 I hN hi hx r (fun s' I' _=>h s' I') hf
theorem Bp.call'{s':Shared}{ch:?E}[?e](ho:?qW)(u:Un (?gF) ch H H' ?p ?e2)(hok:Q2 ?W X.w H' ?e2)(hg:?s0)
 [?o5]:?nB:=by
 obtain⟨h',g',d',t',o'⟩:=s';have e:o'=s.os:=ho;subst e;exact I.call (g':=g') (t':=t') (d':=d') u hok hg hch
universe e9
noncomputable abbrev XK:=?R->OAddr->?U
noncomputable abbrev St:=?lF
noncomputable abbrev VK:=?eW
noncomputable abbrev TE:=St->?hE
noncomputable abbrev TT:=?AF St ?xV
noncomputable abbrev TA:=?AF St ?m5
structure Ends where
 nx:?L
 rt:VK
 bk:?L:=?kC
 ct:?L:=?kC
noncomputable abbrev TS:=Ends->?L
inductive EP[?aJ](σ:St)(Q:VK)[?d3][?b3]:Prop
 | mk (v:V) [?jN] [?d2] (q:?i9):?vT
inductive TP[?aJ](σ:St)[?gA](b:Bool)[?b3]:Prop
 | mk [?jN] (q:Q b H'):TP X Af σ Q b s'
inductive AP[?aJ](σ:St)(Q:?m5)[?bO][?b3]:Prop
 | mk [?bP] [?jN] [?jY] (q:Q vs H'):AP X Af σ Q us s'
inductive NP[?aJ](N:?L)[?b3]:Prop
 | mk [?zP] (q:?mJ):?BA N
inductive HP[?aJ](σ:St)(Q:?U)[?b3]:Prop
 | mk [?jN] (q:Q H'):?pE
inductive YP[?aJ](σ:St)[?d3](Y:?eW)(T:Prop)(fp:?E)(s2:Shared):Prop
 | mk (x:V) (H':Hp) (i:?v4) (r:?cW) (y:Y x H') (t:T) (f:?j5):YP X Af σ u Y T fp s2
inductive RP[?aJ](Q:VK)[?d3][?b3]:Prop
 | mk (v:V) [?zP] [?d2] (q:?i9):RP X Af Q u s'
noncomputable def SP[?aJ](D:Ends)(f:Flow)[?b3]:Prop :=
 match f with
 | .next=>?BA D.nx
 | .brk=>?BA D.bk
 | .cont=>?BA D.ct
 | .ret u=>RP X Af D.rt u s'
noncomputable def PE(X:Cx)(e:Expr)(t:TE):Prop :=
 ∀[?r] (Q:VK),?l->?e1->?zV (?dS) ?a8
noncomputable def PT(X:Cx)(e:Expr)(t:TT):Prop :=
 ∀[?r] [?gA],?CB (isTrue e ?f (?dS)) TP
noncomputable def PW(X:Cx)(e:Expr)(t:TT):Prop :=
 ∀(whole:Sem ?R) [?r] [?gA],?CB (?pJ) TP
theorem PW.pt{X:Cx}{e:Expr}{t:TT}(h:PW X e t):PT X e t:=h _
noncomputable def PA(X:Cx)(es:?f8)(t:TA):Prop :=
 ∀(pos:Pos) [?r] (Q:?m5),?CB (spliced (?mB)) AP
noncomputable def PS(X:Cx)(st:Stmt)(t:TS):Prop :=
 ?CA exec
noncomputable def jS(X:Cx)(st:?cK)(t:TS):Prop :=
 ?CA execs
theorem Du{α:Type}{t:Sem α}{Q Q':α->?bX}{M:Model}[?z][?Z][?bR](h:?A1 M t)(hQ:∀a s,Q a s->Q' a s):?d M A t Q' E s:=qp1 h hQ fun _ _ x=>x
section
variable{X:Cx}
theorem bin[?oO][?c7][?g5]{R:V->?eW}[?e][?zI]
 {α:Type}{Q:α->?bX}{f:?R->?R->Sem α}
 [?yH] :
 ?s4:=by
 ext zC;ext a5;ext yD
inductive vS(i:Nat)(σ:St)(H:Hp)(Q:VK):Prop
 | mk:∀v,(?sA)->(Q v H)->?q5
noncomputable def Ad4(i:Nat):TE:=fun σ H Q=>?q5
noncomputable def tC(v:V):TE:=?C6 v
theorem XA[?d1][?Q](hN:?gE)(hv:?uJ)[?g3](hcd:(x==("__classdict__":Str))=false:=by decide):?B4 ?i1 (Ad4 i):=by
 ext y;obtain⟨v,e,h⟩:=h;obtain⟨m,hn,hl⟩:=I.loc;obtain⟨u,r,l⟩:=hl i x v hN e hv;have fin:?AW u s:=?lN
 rcases l with⟨hk,hm⟩|⟨hk,c,hc,hcell⟩
 . exact ?nC (wpAny_loadName_local ?dQ hk hn hm fin) hd
 . rcases hk with hk | hk
   . exact ?nC (wpAny_loadName_cell ?dQ hk hc hcell fin) hd
   . exact ?nC (wpAny_loadName_free ?dQ hk hc hcell fin hcd) hd
theorem Aj{i j pos}:?AL (?aH) (?aH):=?AU wpAny_Constant_int ⟨?aH,H,?dM,?c2,h⟩
theorem M1{b j pos}:?AL (?iP b) (?hI):=?AU Constant_bool ⟨?hI,H,I,rfl,h⟩
theorem X1{j pos}:?AL ?aO ?D:=?AU Constant_none ⟨?D,H,I,rfl,h⟩
theorem Nu{x j pos}:?AL (?dV) (?dV):=?AU Calls.Constant_str ⟨?dV,H,?dM,?c2,h⟩
noncomputable def Gl(X:Cx)(x:Str):Prop:=X.env.kindOf x=?c .globalImplicit
theorem Ww[?Z][?g5]{x:Str}[?T][?Q][?b1][?e][?gD](hm:?fB=?w)(h:Q u s)
 [?g3]:?vY :=
 ?vJ ?dQ hg (Calls.loadGlobal_global (?B6 I.bk) hm h) hd
theorem Jt[?Z][?g5]{x:Str}[?T][?Q][?b1][?e][?zA](h:Q u s)
 [?jM] [?g3]:?vY:=by
 obtain⟨mb,h1,h2⟩:=I.mod.blt;exact ?vJ ?dQ hg (Calls.loadGlobal_builtin (?B6 I.bk) hm (by rw[I.ok.blt];exact h1.keeps I.bk) ((h2 x hn).trans hv) h) hd
theorem Kc{x:Str}{v:V}[?T][?Q][?gD](hm:?fB=?w)[?d2][?g3]:?oS :=
 fun _ _ _ H _ I h=>Ww I hg hm ?lN hd
theorem Iw{x:Str}{v:V}[?T][?Q][?zA][?d2][?jM][?g3]:?oS :=
 fun _ _ _ H _ I h=>Jt I hg hm hv ?lN hn hd
variable[?oO][?Q]
noncomputable def PC(X:Cx)(op:CmpOp)(a b:Expr)(t:TE):Prop :=
 ∀[?r] (Q:VK),?l->?e1 →
   ?zV (?kW) (?CC (?CL (?bH op v u) ?a8))
theorem nX(b:Expr){op:CmpOp}(h:?wY)(h2:?tZ):?jA:=by
 ext yP
 ext yO
 cases b<;>simp[behindInMarks,e1,e2]
inductive ItB[?gA](x:V)(H1:Hp):Prop
 | mk:∀c,?iH->(Q c H1)->?p1
noncomputable def tB(t:TE):TT:=?zW t ?p1
theorem A07{op:CmpOp}{t:TE}(h:PC X op a b t)(h1:?jA:=by first | exact nX _ ?bT ?bT | rfl):?C8 tB t:=by
 intro Af s σ H Q I hw;refine ?q4 (Du (?A7 h hw) fun v s1 h1=>Du h1 fun u s2 h2=>Du h2 fun c s3 _z=>?_) h1;ext a5;ext yY
theorem G6{e:Expr}{t:TE}(h:?B4 e t)(he:∀whole,?pJ=(do let v ←whole;?n2 e.pos;?fW [v] (truthy v)):=by intro _;rfl):PT X e (tB t):=by
 intro Af s σ H Q I hw;refine isTrue_plain (Du (?A7 h hw) ?cJ) (he _);ext a5;ext yY
variable{tA tB':TT}{rest:?f8}
noncomputable def Az2(t u:TT):TT:=fun σ H Q=>t σ H fun c H1=>if ?fA then ?uT else Q ?b7 H1
noncomputable def tOr(t u:TT):TT:=fun σ H Q=>t σ H fun c H1=>if ?fA then Q true H1 else ?uT
noncomputable def Ay9(t:TT):TT:=fun σ H Q=>t σ H ?wZ
theorem BJ[?gB]:?BL [a] tA:=by
 intro wh Af s σ H Q I h;refine isTrue_and (Du (ha Af s σ H Q I h) fun c s1 e=>?_);cases c with
 | true=>exact isTrue_and_nil e
 | false=>exact e
theorem gB[?gB]:?BQ [a] tA:=by
 intro wh Af s σ H Q I h;refine isTrue_or (Du (ha Af s σ H Q I h) fun c s1 e=>?_);cases c with
 | false=>exact isTrue_or_nil e
 | true=>exact e
theorem GB[?gB](hb:?BL (b::rest) tB'):?BL (a::b::rest) (Az2 tA tB'):=by
 intro wh Af s σ H Q I h;refine isTrue_and (Du (ha Af s σ H _ I h) fun c s1 _z=>?_);obtain⟨H1,I1,q1⟩:=_z;cases c with
 | true=>exact ?tL
 | false=>exact ?i8
theorem NF[?gB](hb:?BQ (b::rest) tB'):?BQ (a::b::rest) (tOr tA tB'):=by
 intro wh Af s σ H Q I h;refine isTrue_or (Du (ha Af s σ H _ I h) fun c s1 _z=>?_);obtain⟨H1,I1,q1⟩:=_z;cases c with
 | true=>exact ?i8
 | false=>exact ?tL
theorem Ii[?gB]:PT X (?nD .Not a pos) (Ay9 tA):=by
 ext y;exact isTrue_not (Du (ha Af s σ H (?wZ) I h) fun c s1 ?i8=>?i8)
inductive pZ(tb:TE)(σ:St)[?e9]:Prop
 | mk:∀c,?iH->(if ?fA then ?kF else Q (?iU) H1)->?oV
noncomputable def Ae6(ta tb:TE):TE:=?zW ta ?oV
inductive VS(tb:TE)(σ:St)[?e9]:Prop
 | mk:∀c,?iH->(if ?fA then Q (?wX) H1 else ?kF)->?xN
noncomputable def Ay8(ta tb:TE):TE:=?zW ta ?xN
inductive PX[?e9]:Prop
 | mk:∀c,?iH->(Q (?t3) H1)->?uE
noncomputable def Ad9(ta:TE):TE:=?zW ta ?uE
theorem Nv{op}{t:TE}(h:?B4 a t):?B4 (?aC op [a] pos) t:=fun Af s σ H Q I hw=>BoolOp_one (h Af s σ H Q I hw)
theorem Mb[?jX](hb:?B4 (?aC .And (b::rest) pos) tb):?B4 (?aC .And (a::b::rest) pos) (Ae6 ta tb):=by
 intro Af s σ H Q I h;refine BoolOp_and (Du (ha Af s σ H _ I h) fun v s1 _z=>?_);obtain⟨x,H1,I1,r1,q1⟩:=_z;obtain⟨c,rfl,q1⟩:=q1;cases r1;refine qj8 ?_;cases c with
 | true=>ext oG
 | false=>exact(?BY ?iU)
theorem Ag8[?jX](hb:?B4 (?aC .Or (b::rest) pos) tb):?B4 (?aC .Or (a::b::rest) pos) (Ay8 ta tb):=by
 intro Af s σ H Q I h;refine BoolOp_or (Du (ha Af s σ H _ I h) fun v s1 _z=>?_);obtain⟨x,H1,I1,r1,q1⟩:=_z;obtain⟨c,rfl,q1⟩:=q1;cases r1;refine qj8 ?_;cases c with
 | false=>ext oG
 | true=>exact(?BY ?wX)
theorem nJ[?jX]:?B4 (?nD .Not a pos) (Ad9 ta):=by
 ext y;refine ?u1 (?oW);ext a5;obtain⟨c,rfl,q1⟩:=q1;cases r1;exact not_of (qj8 (?BY ?t3))
noncomputable def tIf(t:TT)(ta tb:TE):TE:=fun σ H Q=>t σ H fun c H1=>if ?fA then ta σ H1 Q else ?kF
theorem X2{c:Expr}(hc:PT X c tA)[?c7]:?B4 (.IfExp c a b pos) (tIf tA ta tb):=by
 intro Af s σ H Q I h;refine wpAny_IfExp (Du (hc Af s σ H _ I h) fun d s1 _z=>?_);obtain⟨H1,I1,q1⟩:=_z;cases d with
 | true=>exact ?zZ ha Q
 | false=>ext oG
universe e9
noncomputable def SqL[?h](H:Hp)[?b5][?aK]:Prop :=
 Rd H a ?eL ∨
  ∃(o:Obj) (its:?bM) (n:Nat),?qA/\o.cls=?d7/\?r8
noncomputable def Ed[?h](H:Hp)[?b5][?aK]:Prop :=
 Rd H a ?gM ∨
  ∃(o:Obj) (its:?bM) (n:Nat),?qA/\?o4/\?r8
noncomputable def Bc9:?R->?fP
 | ?aO=>?c ?D
 | ?iP b=>?c (?hI)
 | ?j i _=>?c (?aH)
 | .str x _=>?c (?dV)
 | .bytes b _=>?c (.byt b)
 | .float b _=>?c (.flt b)
 | ?a7=>?c ?dO
 | ?bG n=>?c (.ty n)
 | _=>none
theorem RelV.abs{x:V}[?T](r:?cW):Bc9 u=?e0:=by
 cases x with
 | non=>cases r;rfl
 | bl _=>cases r;rfl
 | int _=>ext c8;rfl
 | str _=>ext c8;rfl
 | byt _=>ext c8;rfl
 | flt _=>ext c8;rfl
 | ref _=>cases r;rfl
 | ty _=>cases r;rfl
theorem RelV.inj{x y:V}[?T](r:?cW)(q:?fG):x=y:=qe1 (r.abs.symm.trans q.abs)
theorem Vals.inj:∀[?jZ][?B],?V->?u ys us->xs=ys
 | _,_,_,?v,?v=>rfl
 | _,_,_,?dJ,?H r' t'=>by rw[?mC,Vals.inj t t']
section
variable{X:Cx}[?Y][?bS][?jZ]
theorem SqL.of[?aM](h:H a=?c ?eL):?dZ:=?m (?m h)
theorem Ed.of[?aM](h:H a=?hG):?bW:=?m (?m h)
theorem Bp.list[?e](h:?xC):∃its:?o,?eG/\PlainL ?p a ?aP/\?cE:=by
 rcases h with h|⟨o,its,n,hk,hc,hd,hs,hz,r⟩
 . obtain⟨z,its,n,r,e⟩:=?uX;exact⟨its,r,⟨_,n,e,rfl,rfl,rfl⟩,z⟩
 . refine⟨?mU,r,⟨o,n,?sK,hc,hd,?pG⟩,?_⟩;have e:=r.length;simp only[qv1]at e;omega
theorem Bp.tuple[?e](h:?p3):∃its:?o,?eG/\?f3 ?p a ?aP/\?cE:=by
 rcases h with h|⟨o,its,n,hk,hc,_,hs,hz,r⟩
 . obtain⟨z,its,r,p⟩:=?uX;exact⟨its,r,p.tup,z⟩
 . refine⟨?mU,r,⟨o,?sK,hc,n,?pG⟩,?_⟩;have e:=r.length;simp only[qv1]at e;omega
theorem Bp.list_inj[?e](h:?xC)(h':SqL X.K H a ys):xs=ys:=by
 obtain⟨its,r,⟨o,n,e,_,_,d⟩,_⟩:=?h1 h;obtain⟨its',r',⟨o',n',e',_,_,d'⟩,_⟩:=?h1 h';ext yE
 subst this;exact ?mC
theorem Bp.tuple_inj[?e](h:?p3)(h':Ed X.K H a ys):xs=ys:=by
 obtain⟨its,r,⟨o,e,_,n,d⟩,_⟩:=?dA h;obtain⟨its',r',⟨o',e',_,n',d'⟩,_⟩:=?dA h';ext yE
 subst this;exact ?mC
universe e9
noncomputable abbrev Cx.wish(X:Cx)[?g7]:Cx:={ X with xe:=E }
noncomputable abbrev Cx.nox(X:Cx):Cx:=X.wish ?kC
theorem Cx.Ok.wish{X:Cx}(ok:X.Ok)[?g7]:?rH :=
 ?vD
theorem Cx.Ok.unwish{X:Cx}[?Z](ok:?rH):X.Ok :=
 ?vD
section
variable{X:Cx}[?Y][?Z]
theorem Bp.wish[?e][?g7]:?xA:=⟨I.ok.wish E,?dE,?c6,?l3,?f9,?cM,?bC,?bD,?dI,?aE,?iY⟩
theorem Bp.unwish(I:?xA):?l:=⟨I.ok.unwish,?dE,?c6,?l3,?f9,?cM,?bC,?bD,?dI,?aE,?iY⟩
theorem SP.unwish{D:Ends}{f:Flow}{s':Shared}(h:SP (X.wish E) Af D f s'):SP X Af D f s':=by
 cases f with
 | next=>ext o9
 | brk=>ext o9
 | cont=>ext o9
 | ret u=>obtain⟨v,σ',H',I,r,q⟩:=h;exact⟨v,σ',H',?tG,r,q⟩
theorem jS.nox{st:?cK}{t:TS}(h:jS X.nox st t):jS X st t:=fun Af s σ H D I hw =>
 qp1 (h Af s σ H D (I.wish _) hw) (fun _ _ q=>q.unwish) fun _ _ z=>?d9 z
universe e9
section
variable{X:Cx}{st:Stmt}{rest:?cK}{t u:TS}[?jW][?Q]
noncomputable def Ae0:TS:=fun D σ H=>?cL
noncomputable def Au(t u:TS):TS:=fun D σ H=>t { D with nx:=u D } σ H
theorem Bo:jS X [] Ae0:=fun _ _ σ H _ I h=>qv2 ?sC
theorem Ae(h1:?uY)(h2:jS X rest u):jS X (st::rest) (Au t u):=by
 intro Af s σ H D I h;refine wpAny_execs_cons (Du (h1 Af s σ H { D with nx:=u D } I h) fun f s1 q=>?_);cases f with
 | next =>
   obtain⟨σ',H',I',q⟩:=q;exact h2 Af s1 σ' H' D I' q
 | ret v=>exact q
 | brk=>exact q
 | cont=>exact q
theorem Ai(h1:?uY):jS X [st] t:=by
 intro Af s σ H D I h;refine wpAny_execs_cons (Du (h1 Af s σ H D I h) fun f s1 q=>?_);cases f with
 | next=>exact qv2 q
 | ret v=>exact q
 | brk=>exact q
 | cont=>exact q
theorem Bp.quiet[?Y][?e]:interactive ?f=false:=by simp[interactive,I.ok.kind]
noncomputable def Ae3(te:TE):TS:=fun D σ H=>te σ H fun _ H1=>?qS
theorem Bw[?cZ](hs:?kR e ?X ?gI ?f=?hA:=by rfl):PS X (.Expr e pos) (Ae3 te):=by
 ext e7;exact wpAny_Expr_any (Du ?cP fun v s1 ?eP=>⟨σ,H1,I1,q1⟩) I.quiet hs
noncomputable def Ay7(te:TE):TS:=fun D σ H=>te σ H D.rt
theorem Bd[?cZ]:PS X (.Return (?c e) pos) (Ay7 te):=by
 ext e7;exact wpAny_Return_some (Du ?cP fun v s1 ?eP=>⟨x,σ,H1,I1,r1,q1⟩)
noncomputable def qV(c:TT)(t u:TS):TS:=fun D σ H=>c σ H fun b H1=>if b=true then t D σ H1 else u D σ H1
theorem B8{c:Expr}{a b:?cK}{tc:TT}(hc:?v0)(ha:jS X a t)(hb:jS X b u):PS X (.If c a b pos) (qV tc t u):=by
 intro Af s σ H D I h;refine wpAny_If (Du (hc Af s σ H _ I h) fun d s1 _z=>?_);obtain⟨H1,I1,q1⟩:=_z;cases d with
 | true=>exact ?zZ ha D
 | false=>exact ?zZ hb D
noncomputable def wL:TS:=fun _ _ _=>False
theorem Sw:PS X st wL:=fun _ _ _ _ _ _ h=>h.elim
universe e9
noncomputable abbrev TG:=V->?AF St ?L
noncomputable abbrev QN:=?A->?AF St ?L
noncomputable def PG(X:Cx)(target:Expr)(t:TG):Prop :=
 ∀[?r] (v:V) [?d3] (Q:?L),?l->?bF->t v σ H Q →
   ?zV (?jB target ?f u) (fun _ s'=>NP X Af Q s')
noncomputable def PGs(X:Cx)(ts:?f8)(t:QN):Prop :=
 ∀[?r] [?bP] [?bO] (Q:?L),?l->?n0->t vs σ H Q →
   ?d ?g X.A (assignInOrder ((?hN ts ?f).map (·.2)) us) (fun _ s'=>?BA Q) ?i s
noncomputable abbrev ZH:=V->V->?AF V ?U
noncomputable def Aq0(X:Cx)(t:ZH):Prop :=
 ∀[?r] (o i v:V) (ov iv u:Value) (Q:?U),?l->?aQ o ov->?aQ i iv->?bF->t o i v H Q →
   ?zV (setItem ov iv u) (fun _ s'=>?pE)
section
variable{X:Cx}[?Q]
noncomputable def AO(i:Nat):TG:=fun v σ H Q=>Q (σ.set i ?eQ) H
theorem RS[?d1][?jF][?e3]:?wN:=by
 intro Af s σ H v u Q I r h;exact wpAny_assign_Name (dF I hN hi hx r (fun s' I'=>⟨_,H,I',h⟩) hf)
theorem As[?d1](hN:X.N.Nodup)[?yM][?e3]:?wN:=RS hN hi hx hf
structure Aq9[?bP][?oI]:Prop where
 mk::(left:vs=[]) (right:Q σ H)
noncomputable def Bb8:QN:=fun vs σ H Q=>Aq9 vs σ H Q
inductive qG(t:TG)(u:QN)[?bP][?oI]:Prop
 | mk:∀v r,(vs=v::r)->(t v σ H fun σ' H'=>u r σ' H' Q)->?wE
noncomputable def An3(t:TG)(u:QN):QN:=fun vs σ H Q=>?wE
theorem Em:PGs X [] Bb8:=by
 intro Af s σ H vs us Q I r h;obtain⟨e,h⟩:=h;subst e;cases r;exact assignInOrder_nil ?sC
theorem Br{e:Expr}[?d0]{t:TG}{u:QN}(h1:PG X e t)(h2:PGs X es u)
 (hs:(?hN ?aB ?f).map (·.2)=?jB e ?f::(?nV).map (·.2):=by rfl):PGs X ?aB (An3 t u):=by
 intro Af s σ H vs us Q I r h;obtain⟨v,vr,e1,h⟩:=h;subst e1;cases r with
 | cons r rr =>
   rw[hs];refine assignInOrder_cons (Du (h1 Af s σ H _ _ _ I r h) fun _ s1 _z=>?_);obtain⟨σ1,H1,I1,q1⟩:=_z;exact h2 Af s1 σ1 H1 _ _ Q I1 rr q1
inductive VY[?h](n:Nat)(t:QN)(v:V)[?oI]:Prop
 | mk:∀a xs,(v=?a7)->(?bW)->(xs.length=n)->(t xs σ H Q)->?x6
noncomputable def An2[?h](n:Nat)(t:QN):TG:=fun v σ H Q=>?x6
theorem xA[?d0]{k:Nat}{t:QN}{n:Nat}[?jT](h:PGs X es t)
 (hn:(?nV).length=n:=by rfl) (hst:(?nV).findIdx? (·.1)=none:=by rfl):PG X (.Tuple es k pos) (An2 X.K n t):=by
 intro Af s σ H v u Q I r hw;obtain⟨a,xs,e1,hq,hl,hw⟩:=hw;subst e1;cases r;obtain⟨its,rv,ht,hz⟩:=?fV;refine assign_Tuple_tuple ?cN ht (by simp[hn,←hl,rv.length]) hst fun h' hx=>?_;have I1:?nL:=?iE (t':=s.toks) fun b o e=>hx b o (qc9 ?f2) e;exact h Af _ σ H xs _ Q I1 (by simpa using rv) hw
noncomputable def Bb7(to ti:TE)(t:ZH):TG:=fun v σ H Q=>to σ H fun o H1=>ti σ H1 fun i H2=>t o i v H2 fun H3=>Q σ H3
theorem Kz{o i:Expr}{to ti:TE}{t:ZH}(ho:?t2)(hi:?B4 i ti)(hs:Aq0 X t)
 (ha:∀v,?jB (?gZ o i pos) ?f v=(do
   let ov ←?fW [v] (?f1)
   let iv ←?fW [v,ov] (?CG i)
   ?n2 pos
   ?fW ?p9 (setItem ov iv v)
   release ?p9 []):=by intro _;rfl):PG X (?gZ o i pos) (Bb7 to ti t):=by
 intro Af s σ H v u Q I r h;rw[ha];refine qa7 (qr3 (Du (?A7 ho h) fun ov s1 _z=>?_));ext a5;refine qa7 (qr3 (Du (?zZ hi _) fun iv s2 _z=>?_));obtain⟨y,H2,I2,r2,q2⟩:=_z;refine qa7 (wpAny_standAt (qa7 (qr3 (Du (hs Af s2 σ H2 x y v ov iv u _ I2 r1 r2 r q2) fun _ s3 _z=>?_))));obtain⟨H3,I3,q3⟩:=_z;exact wpAny_release ⟨σ,H3,I3,q3⟩
noncomputable def QV(te:TE)(g:TG):TS:=fun D σ H=>te σ H fun x H1=>g x σ H1 D.nx
theorem Ky{tg e:Expr}{te:TE}{g:TG}[?cZ](hg:?q3)(hs:swapsWithSole [tg] e ?gI ?f=?hA:=by rfl)(hw:swappedStores [tg] e ?f=?bE ?X:=by rfl)
 (h1:(?hN [tg] ?f).map (·.2)=[?jB tg ?f]:=by rfl):PS X (?nO [tg] e pos) (QV te g):=by
 ext e7;refine wpAny_Assign_stores (Du ?cP ?cJ) hs hw;ext a5;rw[h1];exact Du (hg Af s1 σ H1 x v _ I1 r1 q1) fun _ s2 q=>q
theorem wY[?d1][?jW]{pos':Pos}[?jF][?cZ][?yW][?e3] :
 ?v8:=by
 ext e7;refine wpAny_Assign_Name (Du ?cP ?cJ) hs;obtain⟨y,H1,I1,r1,q1⟩:=_z;exact dF I1 hN hi hx r1 (fun s2 I2=>⟨_,H1,I2,q1⟩) hf
theorem Ap[?d1][?jW]{pos':Pos}(hN:X.N.Nodup)[?cZ][?yM][?yW][?e3]:?v8:=wY hN hi hx he hs hf
universe e9
section
variable{X:Cx}[?Q]
noncomputable def wK(c:TT)(tb:TS):TS:=fun D σ H=>∃W:?l2,(∃m,?oX)/\∀m σ H,?oX →
 c σ H fun b H1=>if b=true then ∃N:?L,(∀σ' H',?mJ->∃m',m'<m/\W m' σ' H')/\tb ?qE σ H1 else ?qS
theorem Su{c:Expr}{body:?cK}{tc:TT}{tb:TS}[?zK](hc:?v0)(hb:?oT):PS X (.While c body [] pos) (wK tc tb):=by
 intro Af s σ H D I h;obtain⟨W,⟨m0,w0⟩,turn⟩:=h;refine wpAny_While (codeAny_whileLoop (fun n s'=>∃σ' H',Bp X Af σ' H' s'/\W n σ' H') ?_ m0 ⟨σ,H,I,w0⟩);rintro n s1 ⟨σ1,H1,I1,w1⟩;refine qn4 hp (Du (hc Af s1 σ1 H1 _ I1 (turn n σ1 H1 w1)) fun b s2 _z=>?_);obtain⟨H2,I2,q2⟩:=_z;cases b with
 | true =>
   obtain⟨N,hN,q2⟩:=q2;rw[if_pos rfl];refine qn4 hp (Du (hb Af s2 σ1 H2 _ I2 q2) fun f s3 q3=>?_);cases f with
   | next =>
     ext yK
   | cont =>
     ext yK
   | brk=>exact q3
   | ret v=>exact q3
 | false =>
   rw[?t qd6];exact qv2 ⟨σ1,H2,I2,q2⟩
universe e9
structure It where
 go:?q2
 yld:Nat->Hp->?eW
 stop:?q2
noncomputable def Qo[?aJ](H:Hp)(b:Addr):Prop :=
 ?I/\?dC/\?hM/\(b∈X.ex\/?A4 b)/\?uW
theorem Bp.fpOk{X:Cx}{Af:Bl}{σ:St}{H H':Hp}[?bR]{b:Addr}[?e](hb:s.heap.objs.size<=b)(hn:?gS):?tV:=by
 refine⟨hn,qk8 (qb4 I.lt hb),I.nofs hb,?C (qa5 I.sz hb),fun x c e z=>?_,fun p hp z=>?_⟩
 . obtain⟨v,q⟩:=?i3;exact ?BF q.lt (by rw[z];exact hb)
 . exact ?BF (qb3 (?wI).1) (by rw[z];exact hb)
structure Wp[?cY][?h](tg:Expr)(J:It)(fp:?E)(it:Addr)(tn:?xP):Prop where
 mem:it∈fp
 obj:∀i h,tn i h->∀b∈fp,∃o,?b8/\?tS
 keep:∀i h h',tn i h->(∀b∈fp,∀o,?b8->?jC)->tn i h'
 item:∀(X:Cx),?xW->X.w=w->X.K=K->?j1->∀(i:Nat) [?r] [?g7],?l->(?kP)->?m4->?v6 →
  ?d ?dW X.A (pyNext ?d5) (fun r s1=>∃u,r=?w ∧
   ?d ?dW X.A (letOwnedTupleGo tg ?d5 u) (fun _ s2=>YP X Af σ u (J.yld i H) (tn ?fD s2.heap) fp s2) E s1) E s
 done:∀(X:Cx),?xW->X.w=w->X.K=K->?j1->∀(i:Nat) [?r] [?g7],?l->(?kP)->?m4->?wG →
  ?d ?dW X.A (pyNext ?d5) (fun r s1=>r=none/\?A0 H s1) E s
 self:∀[?eD] (i:Nat) [?g1],?m4->Q ?d5 s->?A1 ?dW (?kG ?d5)
noncomputable abbrev TI:=?AF St ?kD
noncomputable def PIE[?aJ](σ:St)(tg:Expr)[?eB](itv:Value)(s2:Shared):Prop :=
 ∃(it:Addr) (fp:?E) (tn:?xP) (J:It) (H':Hp),itv=?k it/\?v4/\Wp ?W X.w X.K tg J fp it tn/\tn 0 s2.heap/\(?w4)/\R J H'
noncomputable def PI(X:Cx)(tg iter:Expr)(wi:TI):Prop :=
 ∀[?r] [?eB],?l->wi σ H R →
   ?zV (?CG iter) (fun v s1=>?d ?g X.A (?kG v) (PIE X Af σ tg R) ?i s1)
theorem JG{M:Model}[?z][?Z][?bR]{tg:Expr}{it:Addr}[?T]{o:Obj}{n:String}{vs:?bM}[?g9](ho:?aX it=?s)(hc:o.cls=?bG n)(hd:o.data=?d6 vs)
 (hn:?zX n=false) (hQ:Q () s):?A1 M (letOwnedTupleGo tg ?d5 u):=by
 unfold letOwnedTupleGo
 cases tg<;>first
  | exact ?lP
  | (cases u<;>first
      | exact ?lP
      | (refine qa7 (wpAny_load ho ?_)
         rw[hc,hd];show ?d M A (if (?zX n&&vs[0]?==?c (rawInt _))=true then _ else _) Q E s;rw[?t (by intro h;rw[hn,Bool.false_and]at h;cases h)];exact ?lP))
noncomputable def zM[?h][?b5]:It :=
 ⟨fun i H=>∃xs x,?dZ/\?dN,?BV ?dZ,fun i H=>∃xs,?dZ/\?s9⟩
noncomputable def zL[?h][?b5]:It :=
 ⟨fun i H=>∃xs x,?bW/\?dN,?BV ?bW,fun i H=>∃xs,?bW/\?s9⟩
noncomputable def UE(lo:Int)(n:Nat):It:=⟨fun i _=>i<n,fun i H x H'=>H'=H/\x=?nW,fun i _=>n<=i⟩
theorem KA[?b2][?aM]{tg:Expr}(a it:Addr):?BD ?fS h.IsListIter where
 mem:=?aV
 obj:=fun i h st b hb=>by
  ext jK
  ext yQ
 keep:=?v5
 item:=by
  ext e4;obtain⟨xs,x,hq,hx⟩:=hg;obtain⟨its,rv,p,hz⟩:=?fI;obtain⟨u,hu,ru⟩:=?vO;ext e5;refine ?CF wpAny_pyNext_list_item ?nH;ext y8;exact⟨u,rfl,?A8 I.list_inj⟩
 done:=by
  ext e4;obtain⟨xs,hq,hx⟩:=hg;obtain⟨its,rv,p,hz⟩:=?fI;ext e5;have hl:=rv.length;exact wpAny_pyNext_list_end ?cN st ?nH (by simp;omega) ?lL
 self:=?AZ wpAny_pyIter_listiter
theorem fN[?b2][?aM]{tg:Expr}(a it:Addr):?BD ?fE h.IsTupleIter where
 mem:=?aV
 obj:=fun i h st b hb=>by
  ext jK
  ext yQ
 keep:=?v5
 item:=by
  ext e4;obtain⟨xs,x,hq,hx⟩:=hg;obtain⟨its,rv,p,hz⟩:=?fV;obtain⟨u,hu,ru⟩:=?vO;ext e5;refine ?CF wpAny_pyNext_tuple_item (?BP s.heap.IsTuple);ext y8;exact⟨u,rfl,?A8 I.tuple_inj⟩
 done:=by
  ext e4;obtain⟨xs,hq,hx⟩:=hg;obtain⟨its,rv,p,hz⟩:=?fV;ext e5;have hl:=rv.length;exact wpAny_pyNext_tuple_end ?cN st (?BP s.heap.IsTuple) (by simp;omega) ?lL
 self:=?AZ wpAny_pyIter_tupleiter
theorem FN[?b2][?aM]{tg:Expr}(it:Addr)(lo:Int)(n:Nat):Wp P w K tg (?gV) [it] it (fun i h=>?uV h it (lo+(i:Nat)*1) (?aR-(i:Nat)) 1) where
 mem:=?aV
 obj:=fun i h st b hb=>by
  ext jK
  subst e
  exact⟨_,st,fun v z=>by
   have z':Data.fields _=Data.cell v:=z;cases z'⟩
 keep:=fun i h h' st k=>k it ?S _ st
 item:=by
  ext e4;ext e5;have W:=Walks.range (prog:=X.prog) (w:=X.w) ?cN it lo 1 n;refine W.item i s _ _ hg st fun v h' tk hv st' kk=>?_;obtain⟨t,rfl⟩:=hv;have I1:?A0 H ?uN:=?m1 (fun b o hb e=>kk b o (?j8) e) f0 f1 f3 f4 f5;refine⟨_,rfl,JG (s:=?uN) (n:="range_iterator") st' rfl rfl ?bT ⟨?nW,H,I1,⟨t,?_⟩,?uB,st',?mG⟩⟩;rw[qp5]
 done:=by
  ext e4;ext e5;exact wpAny_pyNext_range_end ?cN st (by have:n<=i:=hg;omega) ?lL
 self:=?AZ wpAny_pyIter_rangeiter
section
variable{X:Cx}{tg:Expr}
inductive QE[?h][?eB](x:V)(H1:Hp):Prop
 | mk:∀a,?c1->((∃xs,SqL K H1 a xs))->(R (?fS) H1)->?uC
noncomputable def VG[?h](tl:TE):TI:=?BW ?uC
inductive vY[?h][?eB](x:V)(H1:Hp):Prop
 | mk:∀a,?c1->((∃xs,Ed K H1 a xs))->(R (?fE) H1)->?x4
noncomputable def Aj7[?h](tl:TE):TI:=?BW ?x4
theorem rQ[?zU]:PI X tg l (VG X.K tl):=by
 ext yS;ext a5;ext z5;obtain⟨its,rv,p,hz⟩:=I1.list hq;refine qt3 ?nH ?_;refine(?B8 KA);ext zF
 ext oA
theorem WZ[?zU]:PI X tg l (Aj7 X.K tl):=by
 ext yS;ext a5;ext z5;obtain⟨its,rv,p,hz⟩:=I1.tuple hq;refine qn0 (?BP s1.heap.IsTuple) ?_;refine(?B8 fN);ext zF
 ext oA
theorem DQ[?Y]{R:?kD}[?Z]{lo hi:Int}{t u v:Tok}{tk:Nat}[?e](h1:-(?aZ)<=lo)(h2:lo<?aZ)(h3:-(?aZ)<=hi)(h4:hi<?aZ)
 (q:R (UE lo ?hF) H):?d ?g X.A (?kG ?h8) (PIE X Af σ tg R) E ?wO:=by
 refine wpAny_pyIter_range (IsRange.new ..) (small_one h1 h2 h3 h4) ?_;have I1:?A0 H ?wO:=?iE ?iL
 refine⟨?lM,[?lM],_,_,H,rfl,
  I1.kept (t':=tk) ?iL,FN _ lo ?hF,?_,?f4,q⟩
 . have e1:?sT=lo:=?aV
   have e2:((?hF:Nat):Int)-?nY=Builtin.Range.rangeSize lo hi 1:=by rw[rangeSize_one];split<;>omega
   show ?uV _ _ (?sT) (((?hF:Nat):Int)-?nY) 1;rw[e1,e2];exact ?eZ
 . have e:b=?lM:=?j8
   ext oA
inductive qE[?eB][?bP](H1:Hp):Prop
 | mk:∀j:Int,(vs=[?j j])->(-(?aZ)<=j)->(j<?aZ)->(R (UE 0 j.toNat) H1)->?pY
noncomputable def Aj9(ta:TA):TI:=?BU ?pY
inductive QD[?eB][?bP](H1:Hp):Prop
 | mk:∀i j:Int,(vs=?mW)->((-(?aZ)<=i/\i<?aZ/\-(?aZ)<=j/\j<?aZ))->(R (UE i (j-i).toNat) H1)->?qH
noncomputable def Aj8(ta:TA):TI:=?BU ?qH
theorem Cb{a:Expr}[?z7](ha:PA X [a] ta)(hs:?c5 [a] ?f=[?uR]:=by rfl):PI X tg (?AJ ?eS [a]) (Aj9 ta):=by
 intro Af s σ H R I h;refine Call_ (Jt I hg hm boot_range (qf1 (Du (ha pos Af s σ H _ I h) fun us s1 _z=>?_) hs rfl));obtain⟨vs,H1,I1,r1,q1⟩:=_z;obtain⟨j,e,q1,q2,q⟩:=q1;subst e;cases r1 with
 | cons r rr =>
   cases rr;ext c8;exact call_range_1 (DQ I1 O9m O9m q1 q2 (by simpa using q))
theorem aF{a b:Expr}[?z7](ha:PA X [a,b] ta)(hs:?c5 [a,b] ?f=[?uR,?r9]:=by rfl)(hs2:?c5 [b] ?f=[?r9]:=by rfl) :
 PI X tg (?AJ ?eS [a,b]) (Aj8 ta):=by
 intro Af s σ H R I h;refine Call_ (Jt I hg hm boot_range (qf1 (Du (ha pos Af s σ H _ I h) fun us s1 ⟨vs,H1,I1,r1,q1⟩=>?_) (by rw[hs,hs2]) (by rw[hs2];rfl)));obtain⟨i,j,e,⟨q1,q2,q3,q4⟩,q⟩:=q1;subst e;cases r1 with
 | cons r rr =>
   cases rr with
   | cons r' rr =>
     cases rr;ext c8;obtain⟨t',rfl⟩:=r';exact call_range_2 (DQ I1 q1 q2 q3 q4 q)
noncomputable def Az1(wi:TI)(g:TG)(tb:TS):TS:=fun D σ H=>wi σ H fun J H1=>∃W:?gJ,(∃m,W 0 m σ H1)/\∀i m σ H,?j4 →
 (?wG/\?cL)\/(?v6/\∃N:?L,?gP/\∀x H',J.yld i H x H'->?hH)
noncomputable def X0(fp:?E)[?b6]:Bl:=fp.filterMap fun b=>(?gU).map fun o=>?iX
theorem Nz{fp:?E}{h:Heap}[?jV](hb:b∈fp)(e:?b8):?iX∈X0 fp h:=List.mem_filterMap.mpr ⟨b,hb,by rw[e];rfl⟩
theorem kX{fp:?E}{h:Heap}{p:?qY}(hp:p∈X0 fp h):p.1∈fp/\?f6 p.1=?c p.2:=by
 obtain⟨b,hb,e⟩:=List.mem_filterMap.mp hp;cases q:h.get? b with
 | none=>rw[q]at e;cases e
 | some o =>
   rw[q]at e;have e':?iX=p:=qe1 e;subst e';exact⟨hb,q⟩
theorem Bp.pinned[?Y]{fp:?E}[?e](hf:?kP)(ho:∀b∈fp,∃o,?bU/\?tS):Bp X (Af++X0 fp ?p) σ H s :=
 ?oU fun p hp=>?qR (fun z=>?dI p (qg1 _ z)) fun z=>by
  obtain⟨hb,e⟩:=kX z;obtain⟨f0,f1,f2,_⟩:=hf p.1 hb;obtain⟨o,e',d⟩:=ho p.1 hb;rw[e]at e';cases e';exact⟨e,f0,f1,f2,d⟩
theorem Bp.unpinned{Af pl:Bl}{σ:St}{H:Hp}[?bR](I:Bp X (Af++pl) σ H s):?l:=?oU fun p hp=>?dI p (qg1 _ (qn3 _ hp))
theorem Ci{iter:Expr}{body:?cK}{wi:TI}{g:TG}{tb:TS}[?Q][?zK][?jT](hi:PI X tg iter wi)(hg:?q3)(hb:?oT)
 (hs:∀x,foldedSetIterable iter ?f x=?bE x:=by intro _;rfl):PS X (.For tg iter body [] pos) (Az1 wi g tb):=by
 ext e7;refine wpAny_For (Du (?A7 hi h) fun v s1 h1=>Du h1 fun itv s2 h2=>?_) hs;obtain⟨it,fp,tn,J,H2,e,I2,T,st2,f2,W,⟨m0,w0⟩,turn⟩:=h2;subst e;have fS:∀{H':Hp},(?j5)->?w4:=fun hn b hb=>⟨hn b hb,(f2 b hb).2⟩
 refine codeAny_forLoop_any (fun n s'=>∃i σ' H',?sV/\tn i ?e2/\(?j5)/\W i n σ' H') ?_ m0 ⟨0,σ,H2,I2,st2,fun b hb=>(f2 b hb).1,w0⟩;rintro n s3 ⟨i,σ3,H3,I3,st3,QL,w3⟩;rcases turn i n σ3 H3 w3 with⟨stop,qn⟩|⟨go,N,hN,step⟩
 . refine qn4 hp (Du (T.done X rfl rfl rfl hc i Af s3 σ3 H3 ?i I3 (fS QL) st3 stop) ?wQ);obtain⟨hr,I4⟩:=_z;subst hr;exact qv2 ⟨σ3,H3,I4,qn⟩
 . refine qn4 hp (Du (T.item X rfl rfl rfl hc i Af s3 σ3 H3 ?i I3 (fS QL) st3 go) ?wQ);obtain⟨u,hr,h4⟩:=_z;subst hr;refine qn4 hp (Du h4 fun _ s5 _z=>?_);obtain⟨x,H5,I5,r5,y5,wO,yV⟩:=_z;have I5':=I5.pinned (fS yV) (T.obj _ _ wO);refine qn4 hp (Du (hg _ s5 σ3 H5 x u _ I5' r5 (step x H5 y5)) fun _ s6 _z=>?_);obtain⟨σ6,H6,I6,q6⟩:=_z;refine qn4 hp (Du (hb _ s6 σ6 H6 _ I6 q6) fun f s7 q7=>?_)
   have again:∀{σ7:St}{H7:Hp},Bp X (Af++X0 fp s5.heap) σ7 H7 s7->N σ7 H7->∃m,m<n/\∃i σ' H',Bp X Af σ' H' s7/\tn i s7.heap/\(?j5)/\W i m σ' H':=fun {σ7 H7} I7 n7=>by
    obtain⟨m',hm,w7⟩:=hN σ7 H7 n7;refine⟨m',hm,i+1,σ7,H7,?mS,T.keep _ _ _ wO fun b hb o e=>(?rP).1,?f4,w7⟩;obtain⟨o,e,d⟩:=T.obj _ _ wO b hb;exact(?rP).2.1
   cases f with
   | next=>ext zB
   | cont=>ext zB
   | brk=>obtain⟨σ7,H7,I7,q7⟩:=q7;exact⟨σ7,H7,?mS,q7⟩
   | ret v=>obtain⟨x7,σ7,H7,I7,r7,q7⟩:=q7;exact⟨x7,σ7,H7,?mS,r7,q7⟩
universe e9
theorem for_list[?aM][?bS][?aL][?o7](hl:∀i σ H,?o1->?dG->?dZ)
 [?yA] :
 ∃W:?gJ,(∃m,W 0 m σ H)/\∀i m σ H,?j4 →
   (?C3 ?fS)\/(?A6 ?fS ?fS):=by
 ext y6
 . ext y5
 . have e:?w0:=O9m
   ext z4
theorem tP[?aM][?bS][?aL][?o7](hl:∀i σ H,?o1->?dG->?bW)
 [?yA] :
 ∃W:?gJ,(∃m,W 0 m σ H)/\∀i m σ H,?j4 →
   (?C3 ?fE)\/(?A6 ?fE ?fE):=by
 ext y6
 . ext y5
 . have e:?w0:=O9m
   ext z4
theorem Co{lo:Int}{n:Nat}[?o7]
 (hs:∀i σ H,i<n->?dG->g (?nW) σ H ?p4) (hd:∀σ H,Pv n σ H->?cL) :
 ∃W:?gJ,(∃m,W 0 m σ H)/\∀i m σ H,?j4 →
   (?C3 ?gV)\/(?A6 ?gV ?gV):=by
 refine⟨fun i m σ H=>m=n-i/\i<=n/\?dG,⟨n,?aV,qa9 _,h0⟩,?_⟩;rintro i m σ H ⟨rfl,hi,p⟩;by_cases hlt:i<n
 . refine ?AN hlt n;obtain⟨e,y⟩:=y;subst e y;exact hs i σ _ hlt p
 . have e:i=n:=O9m
   subst e;exact ?m ⟨?i0,?u5⟩
noncomputable abbrev R2:=V->?fL
noncomputable def OpR(X:Cx)(f:?uP)(r:R2):Prop :=
 ∀[?r] (x y:V) (v u:Value) (Q:VK),?l->?c3->?fG->?vN →
   ?zV ?mI ?a8
noncomputable def UnR(X:Cx)(f:?lU)(r:?fL):Prop :=
 ∀[?r] (x:V) (v:Value) (Q:VK),?l->?c3->r x H Q →
   ?zV (f v) ?a8
noncomputable def F0(X:Cx)(f:Value)(r:?fF):Prop :=
 ∀[?r] [?aK] [?bO] (Q:VK),?l->?V->r xs H Q →
   ?zV (call f us) ?a8
noncomputable def tOp(r:R2)(ta tb:TE):TE:=fun σ H Q=>ta σ H fun x H1=>tb σ H1 fun y H2=>r x y H2 Q
noncomputable def tUn(r:?fL)(ta:TE):TE:=fun σ H Q=>ta σ H fun x H1=>r x H1 Q
inductive IrI(C:?mY)[?jU][?cX]:Prop
 | mk:∀i j,?iN->(y=?j j)->(C i j)->?pU->?r6
noncomputable def rI(C:?mY)[?jU]:R2:=?B5 ?r6
inductive Aq8[?jU][?cX]:Prop
 | mk:∀i j,?iN->(y=?j j)->?pU->?wF
noncomputable def wW[?jU]:R2:=?B5 ?wF
inductive IrU(g:?mX)(x:V)(H:Hp)(Q:VK):Prop
 | mk:∀i,?iN->(Q (g i) H)->?wC
noncomputable def rU(g:?mX):?fL:=fun x H Q=>?wC
section
variable[?zR][?Q]
theorem zG[?c7][?g5]{R:V->?eW}[?e]
 [?zI] [?b1][?jP]
 [?yH] :
 ?s4:=by
 ext zC;ext a5;ext yD
theorem Bf{op:Operator}{r:R2}(ho:?BM (?cS op) r)[?c7]:?B4 (.BinOp a op b pos) ?iT:=by
 ext y;exact wpAny_BinOp (?AD u)
theorem My{op:UnaryOp}{r:?fL}(ho:UnR X (unaryOp op) r)[?jX]:?B4 (?nD op a pos) (tUn r ta):=by
 ext y;exact ?u1 (Du ?eJ fun v s1 ?eP=>ho Af s1 σ H1 x v Q I1 r1 q1)
theorem opI[?jP]{C:?mY}{g:?wB}
 (rule:∀[?oP] [?g1],C i j->?vQ) :
 ?BM f (rI C ?x5):=by
 ext g4;obtain⟨i,j,rfl,rfl,hc,q⟩:=h;ext g8;ext x;exact rule i j t t' s _ _ hc ?r7
theorem Ah1[?jP]{g:?wB}
 (rule:∀[?oP] [?g1],?vQ) :
 ?BM f (wW ?x5):=by
 ext g4;obtain⟨i,j,rfl,rfl,q⟩:=h;ext g8;ext x;exact rule i j t t' s _ _ ?r7
theorem XE[?jP]{g:Int->?y1}
 (rule:∀[?oP] [?g1],Q (?iP ?cQ) s->?rT) :
 ?AG f ?cQ:=by
 ext g4;obtain⟨i,j,rfl,rfl,q⟩:=h;ext g8;ext x;exact rule i j t t' s _ _ ⟨.bl ?cQ,H,I,rfl,q⟩
noncomputable def Bi6(i j:Int):Prop:=0<j/\?t5
noncomputable def zP(i j:Int):Prop:=(-(?hV)<i/\i<?hV)\/(-(?hV)<j/\j<?hV)
theorem zP.ok{i j:Int}(h:zP i j):IntMulOk i j:=by
 rcases h with⟨h1,h2⟩|⟨h1,h2⟩
 . exact .of_left (intBits_le_64 h1 h2)
 . exact .of_right (intBits_le_64 h1 h2)
theorem Cl:?BM (?cS .Add) (wW (?CK (i+j))):=?AC Ah1 add_int
theorem G7:?BM (?cS .Sub) (wW (?CK (i-j))):=?AC Ah1 sub_int
theorem Nw:?BM (?cS .FloorDiv) (rI Bi6 (?CK (i / j))):=opI fun i j _ _ _ _ _ hc q=>by
 have h1:?xH:=hc.1;have h2:?t5:=hc.2;exact floordiv_int O9m (by rw[qh0 i ?bI];exact q) (?m (PyProof.noPylong_small O9m))
theorem E9:?BM (?cS .Mod) (rI (fun _ j=>0<j) (?CK (i%j))):=opI fun i j _ _ _ _ _ hc q=>by
 have h1:?xH:=hc;exact mod_int' O9m (by rw[Int.fmod_eq_emod_of_nonneg i ?bI];exact q)
theorem unI{f:?lU}{g:?rC}
 (rule:∀(i:Int) (t:Tok) [?g1],Q (?j (g i) ?lY) ?dH->?C1 (f ?iK)) :
 UnR X f (rU fun i=>?j (g i)):=by
 intro Af s σ H x v Q I rx h;obtain⟨i,rfl,q⟩:=h;ext g8;exact rule i t s _ _ ⟨?j (g i),H,?dM,?c2,q⟩
theorem Hx:UnR X (unaryOp .USub) (rU fun i=>?j (-i)):=unI fun _ _ _ _ _ q=>neg_int q
universe e9
noncomputable def scal:V->V->?dY
 | ?D,?D=>true | ?D,?c9=>true | ?c9,?D=>true | ?D,?dF=>true | ?dF,?D=>true | ?D,?bK=>true | ?bK,?D=>true
 | ?c9,?c9=>true | ?dF,?dF=>true | ?bK,?bK=>true | .byt _,.byt _=>true
 | ?c9,?bK=>true | ?bK,?c9=>true | ?dF,?bK=>true | ?bK,?dF=>true
 | _,_=>false
structure Bi0[?cX]:Prop where
 mk::(left:?vS) (right:Q (.bl (?pN)) H)
noncomputable def rEq:R2:=fun x y H Q=>Bi0 x y H Q
structure Bh9[?cX]:Prop where
 mk::(left:?vS) (right:Q (.bl (! ?pN)) H)
noncomputable def rNe:R2:=fun x y H Q=>Bh9 x y H Q
theorem JJ{i j:Int}:?P (V.int i=V.int j)=?mE:=by
 rw[qm7];simp
theorem pH{i j:Bool}:?P (V.bl i=V.bl j)=?mE:=by
 rw[qm7];simp
theorem jJ{i j:Str}:?P (V.str i=V.str j)=?mE:=by
 rw[qm7];simp
theorem jK{i j:?qB}:?P (V.byt i=V.byt j)=(i.toList==j.toList):=by
 rw[qm7];cases i;cases j;simp
section
variable[?zR][?Q]
theorem Cs[?Y]{Q:VK}{k k':Bool}[?e](q:Q (?hL) H)(e:k=k'):?AW (?iP k') s:=by
 subst e;exact⟨?hL,H,I,rfl,q⟩
theorem En:?BM (?bH .Eq) rEq:=by
 intro Af s σ H x y v u Q I rx ry h;obtain⟨hs,q⟩:=h;cases x with
 | non =>
   cases rx;cases y with
   | non=>cases ry;exact PySem.EqNone.eq_none_none ?q
   | bl j=>cases ry;exact PySem.EqNone.eq_none_bool ?q
   | int j=>ext x;exact PySem.EqNone.eq_none_int ?q
   | str j=>ext x;exact PySem.EqNone.eq_none_str ?q
   | _=>ext b0
 | bl i =>
   cases rx;cases y with
   | non=>cases ry;exact PySem.EqNone.eq_bool_none ?q
   | bl j=>cases ry;exact eq_bool (Cs I q pH)
   | str j=>ext x;exact PySem.EqMixed.eq_bool_str ?q
   | _=>ext b0
 | int i =>
   obtain⟨t,rfl⟩:=rx;cases y with
   | non=>cases ry;exact PySem.EqNone.eq_int_none ?q
   | int j=>ext x;exact eq_int (Cs I q JJ)
   | str j=>ext x;exact PySem.EqMixed.eq_int_str ?q
   | _=>ext b0
 | str i =>
   obtain⟨t,rfl⟩:=rx;cases y with
   | non=>cases ry;exact PySem.EqNone.eq_str_none ?q
   | bl j=>cases ry;exact PySem.EqMixed.eq_str_bool ?q
   | int j=>ext x;exact PySem.EqMixed.eq_str_int ?q
   | str j=>ext x;exact eq_str (Cs I q jJ)
   | _=>ext b0
 | byt i =>
   obtain⟨t,rfl⟩:=rx;cases y with
   | byt j=>ext x;exact PySem.W.eq_bytes (Cs I q jK)
   | _=>ext b0
 | _=>ext z1
theorem Ln:?BM (?bH .NotEq) rNe:=by
 intro Af s σ H x y v u Q I rx ry h;obtain⟨hs,q⟩:=h;cases x with
 | non =>
   cases rx;cases y with
   | non=>cases ry;exact PySem.EqNone.ne_none_none ?q
   | bl j=>cases ry;exact PySem.EqNone.ne_none_bool ?q
   | int j=>ext x;exact PySem.EqNone.ne_none_int ?q
   | str j=>ext x;exact PySem.EqNone.ne_none_str ?q
   | _=>ext b0
 | bl i =>
   cases rx;cases y with
   | non=>cases ry;exact PySem.EqNone.ne_bool_none ?q
   | bl j=>cases ry;exact ?AX ne_bool pH
   | str j=>ext x;exact PySem.EqMixed.ne_bool_str ?q
   | _=>ext b0
 | int i =>
   obtain⟨t,rfl⟩:=rx;cases y with
   | non=>cases ry;exact PySem.EqNone.ne_int_none ?q
   | int j=>ext x;exact ?AX ne_int JJ
   | str j=>ext x;exact PySem.EqMixed.ne_int_str ?q
   | _=>ext b0
 | str i =>
   obtain⟨t,rfl⟩:=rx;cases y with
   | non=>cases ry;exact PySem.EqNone.ne_str_none ?q
   | bl j=>cases ry;exact PySem.EqMixed.ne_str_bool ?q
   | int j=>ext x;exact PySem.EqMixed.ne_str_int ?q
   | str j=>ext x;exact ?AX ne_str jJ
   | _=>ext b0
 | byt i =>
   obtain⟨t,rfl⟩:=rx;cases y with
   | byt j=>ext x;exact ?AX PySem.W.ne_bytes jK
   | _=>ext b0
 | _=>ext z1
theorem Sz:?AG (?bH .Lt) (?P (i<j)):=?AC XE lt_int
theorem iY:?AG (?bH .LtE) (?P (i<=j)):=?AC XE le_int
theorem DU:?AG (?bH .Gt) (?P (j<i)):=?AC XE gt_int
theorem XC:?BM (?bH .Is) (fun x y H Q=>y=?D/\Q (.bl (?P (x=?D))) H):=by
 ext g4;obtain⟨rfl,q⟩:=h;cases ry;refine is_none_gen (Cs I q ?_)
 cases x<;>first
  | (cases rx;rfl)
  | (ext g8;rfl)
theorem Bm(b:Expr){op:CmpOp}(h:?wY:=by decide)(h2:?tZ:=by decide):?jA:=by
 ext yP
 ext yO
 cases b<;>simp[behindInMarks,e1,e2]
theorem Lm{op:CmpOp}{r:R2}[?oJ][?c7][?zT]:?B4 (?hP a [op] [b] pos) ?iT:=by
 ext y;exact wpAny_Compare1 (?AD u) hm
inductive pW[?gA](x:V)(H':Hp):Prop
 | mk:∀k,(x=?hL)->(Q k H')->?xR
noncomputable def Ad6(t:TE):TT:=fun σ H Q=>t σ H fun x H'=>?xR
theorem Be{op:CmpOp}{r:R2}[?oJ][?c7][?zT]:?C8 Ad6 ?iT:=by
 ext y
 refine ?q4 (Du ?eJ fun v s1 ?eP=>Du (?zZ hb _) fun u s2 ?oQ =>
  Du (?BI _) fun c s3 ?qI=>?_) hm
 subst e;cases r3;exact qj8 ⟨H3,I3,q3⟩
inductive jT(r':R2)(tc:TE)(σ:St)(Q:VK)(y:V)(z:V)(H3:Hp):Prop
 | mk:∀k,(z=?hL)->((if k=true then tc σ H3 fun w' H4=>r' y w' H4 Q else Q (?iU) H3))->?sN
noncomputable def wN(r r':R2)(ta tb tc:TE):TE:=fun σ H Q=>ta σ H fun x H1=>tb σ H1 fun y H2=>r x y H2 fun z H3=>?sN
theorem NL{op op':CmpOp}{r r':R2}[?oJ](ho':?BM (?bH op') r')[?c7](hc:?B4 c tc)
 (hm:lastMarks ?pF [b,c]=false:=by with_unfolding_all rfl):?B4 (?hP a ?pF [b,c] pos) (wN r r' ta tb tc):=by
 ext y
 refine Compare_chain (Du ?eJ fun v s1 ?eP=>chain_link (Du (?zZ hb _) fun u s2 ?oQ =>
  Du (?BI _) fun d s3 ?qI=>?_)) hm
 subst e;cases r3;refine qj8 ?_;cases k with
 | false=>exact ite_ff ⟨?iU,H3,I3,rfl,q3⟩
 | true=>exact ite_tt (chain_last (Du (hc Af s3 σ H3 _ I3 q3) fun w' s4 ⟨z',H4,I4,r4,q4⟩=>ho' Af s4 σ H4 y z' u w' Q I4 r2 r4 q4))
theorem bV:(sizeLine:Nat)<2 ^ 63:=by rw[sizeLine_eq];decide
theorem Vf{x:V}[?B](r:?pK):?pW:=by
 cases r with
 | cons r1 r2=>cases r2;exact⟨_,rfl,r1⟩
theorem CZ{x y:V}[?B](r:?u [x,y] us):∃u w',us=[u,w']/\?cW/\?aQ y w':=by
 cases r with
 | cons r1 r2 =>
   cases r2 with
   | cons r3 r4=>cases r4;exact⟨_,_,rfl,r1,r3⟩
theorem aU[?jT]:?AV "max" (if j > i then j else i):=by
 ext yF;refine max_two_ints ?cN ?vA
 by_cases hj:j > i
 . rw[?jD,?jD];exact ?c2
 . rw[?iA,?iA];exact ?c2
theorem mC[?jT]:?AV "min" (if j<i then j else i):=by
 ext yF;refine min_two_ints ?cN ?vA
 by_cases hj:j<i
 . rw[?jD,?jD];exact ?c2
 . rw[?iA,?iA];exact ?c2
universe e9
structure IC[?b6](x dx C:Addr)(mA:?bY):Prop where
 obj:?f6 x=?c (?hR C dx)
 ns:?n7
 ne:?lB
theorem LA{h:Heap}{dx:Addr}[?oN](n:?n7):∃od,?f6 dx=?c od/\?w8:=by
 obtain⟨o,es,ep,ho,hd,hk,_,hm⟩:=n;refine⟨o,ho,fun name=>?_⟩;have e:=hm ?M;unfold nsFind findBy at e;rw[←Array.find?_toList]at e;unfold PySem.W.lookIn;rw[hd];dsimp only;split
 . rename_i y q
   rw[q]at e;exact ?s7
 . rename_i q
   rw[q]at e
   have a:?tA (·.refKey)=false:=by
    rw[List.any_eq_false];intro y hy;obtain⟨z,t,hkey⟩:=hk y (Array.mem_toList_iff.mp hy);simp[DictEntry.refKey,hkey]
   have a':¬?tA (·.refKey)=true:=by rw[a];exact qd6
   rw[?t a'];exact ?s7
theorem IC.look{h:Heap}{x dx C:Addr}[?oN](I:IC h x dx C mA):∃od,PySem.W.InstAt h x (?hR C dx) C (?c od)/\?w8 :=
 let ⟨od,ho,hl⟩:=LA I.ns
 ⟨od,⟨I.obj,rfl,rfl,ho⟩,hl⟩
section
variable[?oM][?z][?Z][?bR][?aM]{x dx C f:Addr}[?oN]{name:Str}{v:Value}
theorem tN{expr:Bool}[?b1][?yV][?zQ]
 (ha:?rX=?eH) (hv:?lX=?J) (hv':?qU v=true) (h:Q v ?dH) :
 ?A1 ?a0 (?nI ?dD ?M expr):=by
 ext oH;exact PySem.W.get_value X J (qu6 hg).1 (PySem.W.findObj_own hh ha rfl (by rw[hl,hv])) hv' h
theorem OX[?zG][?yV]
 (hf:?rX=?gL) (ht:?kZ) (hv:?lX=none) (h:Q (?k f,[?k x]) s) :
 ?A1 ?a0 (?nP ?dD ?M pl):=by
 ext oH;exact PySem.W.method_fn X J (qu6 hg).1 (qu6 hg).2 hf (qv7.mp ht) (by show(?u6).map (·.isSome)=?c ?b7;rw[hl,hv];rfl) h
theorem qZ{ns:?O}[?g9](X:?fZ)(I:?xB)
 (hs:?AK K) (hp:?vL) (ht:?r0 K C ?M=?eH) [?zQ]
 (hw:?n8 mA ns) (hsz:?BN ns.length)
 (h:∀h',IC h' x dx C (fun y=>if y=name then ?J else mA y)->?mV dx ?p h'->Q () { s with heap:=h',toks:=s.toks+2 }) :
 ?A1 ?a0 (setAttr ?dD ?M v):=by
 ext oH;refine PySem.W.set_plain X J hs (PySem.W.osa_open (s:=?dH) (r:=none) X J hp ht fun b=>?_);obtain⟨cd,hc,hd'⟩:=PySem.W.any_some hh;have hx:?aX x=?c ⟨?gG,?c dx,.plain,#[]⟩:=I.obj;refine qa7 (qc6 (qa7 (qa7 (wpAny_loadPart hx (qa7 (PySem.W.Looks.here (s:=?dH) (PySem.W.looks_clsIn X hc) ?_))))));rw[hd'];refine qc6 (a:=?c dx) (qa7 (qc6 (qa7 ?_)));refine wpAny_nsSet1 (s:=?dH) I.ns fun h' hn2 hs2=>?_;obtain⟨oD,esD,epD,hoD,hdD,hcD⟩:=hn2.count (PySem.Within.cons ?M v hw);refine qa7 (wpAny_lookBehind hoD (by rw[hdD];exact pastItsLine_dict (qa5 hcD (by rw[qc5];omega))) ?_);exact qc6 (h _ ⟨(hs2.2 _ (?eR I.ne)).trans I.obj,hn2,I.ne⟩ hs2)
theorem OF{R:Result->?bX}{vs:?o}[?jS](X:?fZ)(hm:?pM)
 (hi:?B0 "__init__"=?gL) (hf:PySem.W.typeIn K ?a4=?c (?bG "function"))
 (h:?l0 ?a0 (?BR vs) (.call ?a4 ⟨?k ?a2::vs,kw⟩) (PySem.W.InitBack ?a2 R)
   ?rR) :
 ?l0 ?a0 A (.call ?a1 ⟨vs,kw⟩) R s:=by
 obtain⟨hh,g,d,t,os⟩:=s;exact PySem.W.make_core (PySem.W.makes_of X hm) (PySem.W.looks_findIn X hi) (fun self=>PySem.W.bind_fn X self hf) ?dP h
universe e9
noncomputable def putF(f:Str)(v:V):?bN->?bN
 | []=>[(f,v)]
 | (g,x)::r=>if g=f then(g,v)::r else(g,x)::?qC
theorem At(f g:Str)(v:V):∀fs:?bN,(?kV).lookup g=if g=f then ?J else ?iV g
 | []=>by
   show List.lookup g [(f,v)]=_;by_cases h:g=f
   . have hb:(g==f)=true:=qv7.mpr h;simp only[List.lookup,hb,?N h]
   . have hb:(g==f)=false:=qk5.mpr h;simp only[List.lookup,hb,?t h]
 | ?hD=>by
   have ih:=At f g v r;ext o6
   . rw[?iQ];by_cases h:g=k
     . have hb:?w1:=qv7.mpr h;simp only[List.lookup,hb,?N (h.trans hk)]
     . have hb:?p5:=qk5.mpr h;simp only[List.lookup,hb,?t (fun e:g=f=>h (e.trans hk.symm))]
   . rw[?iI];by_cases h:g=k
     . have hb:?w1:=qv7.mpr h;simp only[List.lookup,hb,?t (fun e:g=f=>hk (h.symm.trans e))]
     . have hb:?p5:=qk5.mpr h;simp only[List.lookup,hb];exact ih
theorem Uu(f:Str)(v:V):∀fs:?bN,f∈?rQ (·.1)/\∀g,g∈?iD (·.1)->g∈?rQ (·.1)
 | []=>⟨?u4,fun g h=>?eM⟩
 | ?hD=>by
   obtain⟨i1,i2⟩:=Uu f v r;ext o6
   . rw[?iQ];subst hk;exact⟨?aV,fun g h=>by simpa using h⟩
   . rw[?iI];refine⟨?_,fun g h=>?_⟩
     . rw[qd5];exact qd0 _ i1
     . rw[qd5]at h ⊢;rcases ?mK h with e | e
       . exact qb7.mpr (?m e)
       . exact qd0 _ (i2 g e)
theorem Cd(f:Str)(v:V):∀fs:?bN,(?kV).length<=fs.length+1
 | []=>?u4
 | ?hD=>by
   have ih:=Cd f v r;ext o6
   . rw[?iQ,qc5,qc5];omega
   . rw[?iI,qc5,qc5];omega
theorem Os.some_of{v:V}{o:?eI}(r:Os ?eQ o):∃u,o=?w/\?bF:=by
 cases o with
 | none=>exact ?pZ
 | some u=>exact⟨u,rfl,r⟩
theorem Os.none_of{o:?eI}(r:Os ?X o):o=none:=by
 cases o with
 | none=>rfl
 | some u=>exact ?pZ
theorem lN{v:V}[?T][?d2]:?qU u=true:=by
 cases v with
 | non=>cases (?B1 ?qZ);rfl
 | bl b=>cases (show u=Value.bool b from r);rfl
 | int i=>obtain⟨t,e⟩:=(?B1 ?w3);cases e;rfl
 | str x=>obtain⟨t,e⟩:=(?B1 ?vI);cases e;rfl
 | byt b=>obtain⟨t,e⟩:=(?B1 ?s1);cases e;rfl
 | flt b=>obtain⟨t,e⟩:=(?B1 ?tR);cases e;rfl
 | ref a=>cases (?B1 ?fO);rfl
 | ty n=>cases (show u=Value.type n from r);rfl
section
variable[?b2]{H H':Hp}{h h':Heap}{a C dx:Addr}{fs fs':?bN}
theorem bY(hok:?nS)(e:H a=?h3):∃mA,IC h a dx C mA/\(?nA)/\?n8 mA (?iD (·.1))/\?sJ/\?uK:=by
 obtain⟨d,z,ne,ob,mA,n,r,q⟩:=(show ?aF P w H h a (?kU) from hok a _ e)
 exact⟨mA,⟨ob,n,ne⟩,r,q,z,d⟩
universe e9
structure Cls[?h](C:Addr):Prop where
 pg:?mT K C Str.empty=true
 hd:?rO
 po:?vL
 sa:?AK K
theorem Cls.get[?aM]{C:Addr}(c:Cls K C)(f:Str):?mT K C f=true:=c.pg
noncomputable def Dm[?h](C:Addr)(f:Str):Prop:=?B0 f=?eH
theorem Dm.taker[?aM]{C:Addr}{f:Str}(n:?k1):?r0 K C f=?eH:=by
 unfold PySem.W.takerIn;rw[show ?B0 f=?eH from n];rfl
structure pV[?h](C:Addr)(m:Str)(f:Addr):Prop where
 at_:?B0 m=?gL
 fn:?kZ
 kp:?kB K ?a4=true
section
variable{X:Cx}[?Y]{a C dx:Addr}{fs:?bN}{f:Str}{v:V}[?z][?Z]
theorem gU{b:Bool}[?b1][?e][?oE](n:?x1)(l:?qG)
 (h:∀u s',?A0 H s'->?bF->Q u s'):?A1 ?g (?nI ?dO f b):=by
 obtain⟨mA,O,r,_,_,_⟩:=?n9;obtain⟨u,hu,ru⟩:=Os.some_of (v:=v) (o:=mA f) (by rw[←l];exact r f);exact tN ?cB O (c.get f) c.hd n hu (lN ru) (h u _ (?dM) ru)
theorem Ry{m:Str}{g:Addr}[?zG][?e][?oE](k:?tE)(l:?mA)
 (h:Q (?k g,?dX) s):?A1 ?g (?nP ?dO m pl):=by
 obtain⟨mA,O,r,_,_,_⟩:=?n9;have hn:mA m=none:=Os.none_of (by rw[←l];exact r m);exact OX ?cB O (c.get m) k.at_ k.fn hn h
theorem fV{y:V}[?T][?g9][?e][?oE](n:?x1)(hl:?sZ)(ry:?fG)
 (h:∀s',?A0 (upd H a (.ins C dx (?kA))) s'->?k5):?A1 ?g (setAttr ?dO f u):=by
 obtain⟨mA,O,r,wi,_,ho⟩:=?n9;have hz:(?iD (·.1)).length<=sizeLine:=by rw[qa2,sizeLine_eq];omega
 refine qZ ?cB O c.sa c.po n.taker c.hd wi hz fun h' O' sb=>h _ ?_;have hd:∃o,?dU dx=?s:=let ⟨o,_,_,e',_⟩:=O'.ns;⟨o,e'⟩
 refine I.write (x:=a) (e:=dx) (by rw[e];exact True.intro) (?C ho) (fun b q hb z=>?sQ z) hd ?_;refine⟨by rw[Ak O.ne];exact ho,?_,O.ne,O'.obj,_,O'.ns,fun g=>?_,fun g hg=>?_⟩
 . have:=Cd f y fs;omega
 . show Os ((?kA).lookup g) (if g=f then ?w else mA g);rw[At];by_cases q:g=f
   . rw[?N q,?N q];exact ry
   . rw[?t q,?t q];exact r g
 . by_cases q:g=f
   . rw[q];exact(?uM).1
   . refine(?uM).2 g (wi g fun z=>hg ?_);show(if g=f then ?w else mA g)=none;rw[?t q];exact z
theorem Bp.made[?e]:Bp X Af σ (upd (upd H ?aD (.own ?a2)) ?a2 (?sY))
 ?rR:=by
 have e1:(?f0).get? ?aD=?c ?lQ:=qc2 ?p rfl
 have e2:(?v3).get? ?a2=?c (?n4):=by
  have:=qc2 (?f0) (o:=?n4) rfl
  rwa [qi3]at this
 have e3:(?f0).Ns ?aD (?gY):=⟨?lQ,#[],_,e1,rfl,(fun e he=>?F he ?S),fun _=>rfl⟩
 have I1:=?fR (a:=s.heap.objs.size) (o:=.own ?a2) (h':=?f0) (t':=s.toks) (fun b u q=>?hT) ?G ⟨_,e1⟩;refine ?k2 (a:=?j9) (o:=?sY) (t':=s.toks) (fun b u q=>?hT) (ql9 (qi3 _ _)) ?_;have ne:s.heap.objs.size≠?j9:=qc9 (Nat.lt_succ_self _);refine⟨by rw[Ak ne,Ab],qa9 _,ne,e2,?gY,(Heap.Ns1.of_empty e3).at fun o q=>?hT,fun _=>True.intro,fun y hy=>?F rfl hy⟩
theorem uA[?oM]{env:Env}{e:Expr}{f:Str}[?Q][?bR][?b1](hb:?nK e f env (?lJ)=?lJ)
 (h:?d ?a0 A (?lJ) (fun o s₁=>?d ?a0 A (?nI o f true) Q E s₁) E s):?A1 ?a0 (?a3 (?bA e f pos) env) :=
 Attribute_any_ h (by rw[arm_eval_Attribute,hb])
universe e9
inductive ItFld[?h](f:Str)[?e9]:Prop
 | mk:∀a C dx fs v,?c1->(?kQ)->(Cls K C)->(?k1)->(?qG)->(Q v H1)->?tT
noncomputable def Ae2[?h](ta:TE)(f:Str):TE:=?zW ta ?tT
inductive VT[?h](f:Str)(D:Ends)(σ:St)(y:V)(x:V)(H2:Hp):Prop
 | mk:∀a C dx fs,?c1->(H2 a=?h3)->(Cls K C)->(?k1)->(?sZ)->(D.nx σ (upd H2 a (.ins C dx (?kA))))->?r5
noncomputable def Af2[?h](ta tv:TE)(f:Str):TS:=fun D σ H=>tv σ H fun y H1=>ta σ H1 fun x H2=>?r5
section
variable{X:Cx}{o e value:Expr}{f:Str}{pos pos' tpos:Pos}{ta tv:TE}
theorem xB(he:?B4 e ta)(hb:?nK e f ?f (?dS)=?dS):?B4 (?bA e f pos) (Ae2 X.K ta f):=by
 ext y;refine uA hb (Du ?cP ?i6);obtain⟨x,H1,I1,rx,a,C,dx,fs,v,ex,ea,c,n,l,q⟩:=_z;subst ex;obtain rfl:?fO:=rx;exact gU I1 ea c n l fun u' s2 I2 ru=>⟨v,H1,I2,ru,q⟩
theorem WY(ha:?x8)(hv:?B4 ?gO tv)(hs:?kR ?gO (?c (?tY)) ?gI ?f=?hA):PS X (?nO [?tY] ?gO pos) (Af2 X.K ta tv f):=by
 ext e7;refine plainObj_wpAny_Assign_Attribute (Du (?A7 hv h) fun u s1 ⟨y,H1,I1,ry,q⟩=>Du (ha Af s1 σ H1 _ I1 q) fun ov s2 _z=>?_) hs;obtain⟨x,H2,I2,rx,a,C,dx,fs,ex,ea,c,n,l,q2⟩:=_z;subst ex;obtain rfl:ov=?fJ a:=rx;exact fV I2 ea c n l ry fun s3 I3=>⟨σ,_,I3,q2⟩
theorem UY{pl:?o3}{m:Str}{apos:Pos}{args:?f8}[?g5][?b1]{te:TE}[?cZ][?e]
 (h:te σ H fun x H1=>∃a C dx fs g,x=?a7/\?kQ/\?n6/\?tE/\?mA ∧
   ∀s1,?A0 H1 s1->?d ?g X.A (?iR pos (?k g) ?dX (?cD pos (?c5 args ?f)) ?h0) Q ?i s1)
 (ht:?sH=(do
   let ov ←?dS
   ?nE
   let ?lW ←?mR
   ?AM (?c5 args ?f))) :
 ?zV (?sH) Q:=by
 refine ?rD;obtain⟨x,H1,I1,rx,a,C,dx,fs,g,ex,ea,c,k,l,q⟩:=_z;subst ex;obtain rfl:?fO:=rx;exact Ry I1 ea c k l (q s1 I1)
universe e9
section
variable{X:Cx}[?Y][?z][?Z][?b1]{c:Value}{b:Bool}
universe e9
structure Gb(k:Nat)[?eD]:Prop where
 hd:?sB
 dp:A.depth+3*k+5<recursionLimit
 un:A.units+16*k+200<cLine
 gd:A.guards=?c []
theorem Gb.mono{j k:Nat}[?z](r:?f5)(h:j<=k):Gb j A:=⟨r.hd,?xE,?w5,r.gd⟩
theorem Gb.deeper{k:Nat}[?z](r:?t8)(env:Env):Gb k (?nU env) :=
 ⟨r.hd,by have:=r.dp;show ?pR+3*k+5<_;omega,by have:=r.un;show A.units+3+16*k+200<_;omega,r.gd⟩
theorem gM[?z]{C:Addr}[?B][?jS]:(?eU).depth=?pR:=by
 ext yB
theorem EI[?z]{C:Addr}[?B][?jS]:(?eU).guards=A.guards:=by
 ext yB
theorem GL[?z]{C:Addr}[?B][?jS]:(?eU).units=A.units+1:=by
 first | rfl | simp[Around.under,Code.cUnits,Code.frames,Code.isFrame]
theorem Gb.make{k:Nat}[?z](r:?t8)(C:Addr)[?bO](kw:?iS):Gb k (?eU) :=
 ⟨r.hd,by have:=r.dp;rw[gM];omega,by have:=r.un;rw[GL];omega,by rw[EI];exact r.gd⟩
theorem Gb.depth{k:Nat}[?z](r:?f5):A.depth<recursionLimit:=?xE
theorem Gb.units{k:Nat}[?z](r:?f5):A.units+64<cLine:=?w5
theorem Gb.u8{k:Nat}[?z](h:?f5):A.units+8<cLine:=by
 have:=h.units;omega
noncomputable def WK:TA:=?C6 []
noncomputable def Ae5(ta:TE)(tr:TA):TA:=fun σ H Q=>ta σ H fun x H1=>tr σ H1 fun xs H2=>Q (x::xs) H2
section
variable{X:Cx}{e:Expr}[?d0]{te:TE}{t:TA}[?Q]
theorem Ac:PA X [] WK:=fun _ _ _ _ H Q I h=>qu2 ⟨[],H,I,?v,h⟩
theorem Aa(ha:?lR)(hr:?lT)[?yT]:PA X ?aB (Ae5 te t):=by
 intro pos Af s σ H Q I h;rw[hs];show ?AS (spliced (?v1::?mB));refine qn1 (Du ?eJ ?i6);ext a5;exact Du (hr pos Af s1 σ H1 _ I1 q1) fun us s2 ⟨xs,H2,I2,r2,q2⟩=>⟨x::xs,H2,I2,?H r1 r2,q2⟩
structure Aq6(Q:VK)[?aK](H1:Hp):Prop where
 mk::(left:?cE) (right:?C4 ?gM)
noncomputable def Ad5(t:TA):TE:=?BC Aq6
structure Aq7(Q:VK)[?aK](H1:Hp):Prop where
 mk::(left:?cE) (right:?C4 ?eL)
noncomputable def Az0(t:TA):TE:=?BC Aq7
theorem C7{x1}(h:?lT):?B4 (.Tuple es x1 pos) (Ad5 t):=by
 intro Af s σ H Q I hq;refine ?A5 wpAny_Tuple_spliced;ext z0;refine(?BH ?gM);exact⟨z,us,r,?s3⟩
theorem E8(h:?lT):?B4 (.List es pos) (Az0 t):=by
 intro Af s σ H Q I hq;refine ?A5 wpAny_List_spliced;ext z0;refine(?BH ?eL);exact⟨z,us,0,r,?eZ⟩
universe e9
noncomputable abbrev Sp:=?A->Hp->VK->XK->Prop
noncomputable abbrev qH:=?bZ->Hp->Shared->XK->?cG
structure iE[?cY][?h][?jL][?eD][?eC][?bQ](H:Hp):Prop where
 frames:A.frames=?c ?K
 mod:Mod K mg ?aT
 bs:∀b o,base.get? b=?s->?rW
 bsz:base.objs.size<=s.heap.objs.size
 funs:?h4 ?aT ?K
 frf:∀b∈ML ?K,?I
 hok:Q2 P w H ?p
 bare:?rB
noncomputable def CE[?eC][?cY](H:Hp)[?bQ](Q:VK)[?d3][?b3]:Prop :=
 ∃v H',?qW/\?s0/\Un (ML ?K) [] H H' ?p ?e2/\Q2 P w H' ?e2/\?bF/\?i9
noncomputable def CR(CX:qH)[?eC][?cY](H:Hp)[?bQ](Q:VK)(E:XK)(r:Result)[?b3]:Prop :=
 match r with
 | .ok (.ret u)=>?r2
 | .ok _=>False
 | .error e=>CX ?K H s E e s'
structure Bx[?cY][?h][?jL](CX:qH)(k:Nat)(f:Addr)(fd:FuncData)(ps:?O)(sp:Sp):Prop where
 len:?vX
 run:∀[?eD] [?eC] [?bQ] (H:Hp) (args:Args) [?bO] [?bP] (Q:VK) (E:XK),?f5->?nG->BindsTo s fd args ?hB->?n0->?lH →
  ?l0 ?dW A (.call ?a4 args) (CR CX ?K P w H s Q E) s
theorem iE.make[?b2][?oC][?z]{outer:?bZ}[?bR]{H:Hp}(e:?nG)(C:Addr)[?bO](kw:?iS) :
 iE P w K mg ?aT (?eU) ?K s H:=⟨by first | exact e.frames | (simpa[Around.under,Code.envs,Code.isFrame,pushEnvs]using e.frames),e.mod,e.bs,e.bsz,e.funs,e.frf,e.hok,e.bare⟩
section
variable{X:Cx}{Af:Bl}{σ:St}{H:Hp}{s s':Shared}
theorem Bp.env0[?e]:iE ?W X.w X.K X.mg ?bV X.A ?cT s H :=
 ⟨I.ok.frames,I.ok.mod,I.bs,qa5 ?pV I.sz,I.stack,I.stkFree,?aE,?c6⟩
theorem Bp.after{Q:VK}[?T][?e](h:CE ?cT ?W X.w H s Q u s'):?vT:=by
 obtain⟨v,H',os,bare,un,hok,r,q⟩:=h;obtain⟨hh,g,d,t,os'⟩:=s';obtain rfl:os'=s.os:=os;exact⟨v,H',I.call (h':=hh) (g':=g) (d':=d) (t':=t) (ch:=[]) un hok bare (fun b z=>?F z ?S),r,q⟩
universe e9
noncomputable def tCall[?jR](t:TA):TE:=fun σ H Q=>t σ H fun vs H1=>sp ?cI H1 Q E
inductive pY(C:Addr)(m:Str)[?jR](t:TA)(σ:St)[?e9]:Prop
 | mk:∀a dx fs,?c1->(?kQ)->(?mA)->(t σ H1 fun vs H2=>sp (x::?cI) H2 Q E)->?vG
noncomputable def IL(C:Addr)(m:Str)[?jR](ta:TE)(t:TA):TE:=?zW ta ?vG
noncomputable def UL(C:Addr)[?jR](t:TA):TE:=fun σ H Q=>t σ H fun vs H1=>∀x dx,H1 x=none->H1 dx=none->?lB →
 ?AA H1
noncomputable def Nh[?h](fd:FuncData)(ps:?O)(ds:?o):Prop :=
 ∀[?bQ] [?bO],?fZ->?wH->BindsTo s fd ?rZ (ps.zip (us++ds))
theorem Nh.all[?aM]{fd:FuncData}{ps:?O}(h:∀us:?o,us.length=ps.length->bindArgs fd ?rZ=?bE ?hB):Nh K fd ps []:=fun s us _ hl=>by
 rw[qp0]at hl ⊢;exact .of_eq (h us hl)
noncomputable def Sd(CX:qH)(X:Cx)(E:XK):Prop:=∀(Af:Bl) (σ:St) (H:Hp) [?bQ] (e:Value) [?b3],?l->CX ?cT H s E e s'->?i e s'
section
variable[?zO]{ps:?O}{sp:Sp}{dvs:?A}{ds:?o}{E:XK}{x m:Str}{p pos apos:Pos}{e o:Expr}[?d0]{ta:TE}{t:TA}
theorem bJ[?Y]{Q:VK}[?B]{vs:?A}[?e6][?k0][?g2]
 [?e] [?jY] (h:sp ?cI H Q E):?zV (call ?a4 us) ?a8:=by
 have r2:?u ?cI (us++ds):=r.append hd;have hl:?wH:=by rw[←r2.length];exact F.len _ _ _ _ h
 refine wpAny_call (codeAny_mono (F.run X.A X.stack s H ⟨us,[]⟩ (us++ds) (vs++dvs) Q E hr I.env0 (hb s us I.kIn hl) r2 h) fun r s' hq=>?_);cases r with
 | error e=>exact hx Af σ H s e s' I hq
 | ok fl =>
   cases fl with
   | ret u=>exact I.after hq
   | next=>exact ?lI
   | brk=>exact ?lI
   | cont=>exact ?lI
theorem RX[?e6][?k0][?gD](hm:?fB=?c ?a4)(hk:?kB X.K ?a4=true)[?g2]
 [?e8] [?jH] [?jE] (hpl:?eE (·.1)=false:=by rfl) :
 ?CD (tCall sp dvs E t):=by
 ext y;refine qs9 (Ww I hg hm ?_ hdb);refine ?A2 hk;exact bJ F hr hb hd hx I1 r q
theorem rV[?z6][?e6][?k0][?g2][?e8]
 (hst:?nF:=by rfl) (hpl:?eE (·.1)=false:=by rfl)
 (ht:?CG (?AB o ?aB)=(do
   let ov ←?f1
   ?nE
   let ?lW ←?mR
   ?AM (?mQ)):=by rfl) :
 ?CE ?aB t:=by
 ext y;ext y7;refine qq9 (first:=?dX) (h₀:=X.base) ?m2 hm.kp (Du (ha pos Af s1 σ H1 _ I1 q) fun us s2 ⟨vs,H2,I2,r,q2⟩=>⟨I2.kIn,?_⟩) hst hpl;exact bJ (us:=?a7::us) (vs:=?a7::vs) F hr hb hd hx I2 (?H rfl r) q2
theorem NJ[?z6][?e6][?k0][?g2]
 (ht:?CG (?AB o [])=(do
   let ov ←?f1
   ?nE
   let ?lW ←?mR
   ?AM (?c5 [] ?f)):=by rfl) :
 ?CE [] WK:=by
 ext y;ext y7;exact PySem.W.callWith_K0 (first:=?dX) I1.kIn hm.kp (bJ (us:=?dX) (vs:=?dX) F hr hb hd hx I1 (?H rfl ?v) q)
structure Mk[?h](C f:Addr):Prop where
 makes:?pM
 init:?B0 "__init__"=?gL
 fn:?kZ
 kp:?kB K ?a1=true
theorem nA[?Y]{Q:VK}[?B]{vs:?A}(M:?xG)[?e6](hr:?qM)(hb:?tO)(hd:?qJ)
 (hx:?sR) [?e] [?jY]
 (h:∀x dx,?CJ x->?CJ dx->?lB->?AA H) :
 ?zV (call ?a1 us) ?a8:=by
 have hq:=h ?a2 ?aD (?fH (qn9 _)) (?fH ?G) (qc9 (Nat.lt_succ_self _));have I2:=Bp.made (C:=C) I;have r2:?u (?t0::?cI) (?fJ ?a2::(us++ds)):=?H rfl (r.append hd)
 have hl:(?mN++ds).length=ps.length:=by
  have e:=r2.length;rw[F.len _ _ _ _ hq]at e;exact e.symm
 refine wpAny_call (OF (f:=f) ?cB M.makes M.init (qv7.mp M.fn) (codeAny_mono (F.run _ ?cT _ _ ⟨?mN,[]⟩ (?fJ ?a2::(us++ds)) _ _ E (hr.make C us [])
  (I2.env0.make C us []) (hb _ (?mN) I2.kIn hl) r2 hq) fun r s' hq'=>?_))
 cases r with
 | error e=>exact hx Af σ _ _ e s' I2 hq'
 | ok fl =>
   cases fl with
   | ret u =>
     obtain⟨v,H',I3,rv,ev,q3⟩:=I2.after hq';subst ev;exact⟨rv,⟨?t0,H',I3,rfl,q3⟩⟩
   | next=>exact ?k8
   | brk=>exact ?k8
   | cont=>exact ?k8
theorem RV(M:?xG)[?e6](hr:?qM)[?gD](hm:?fB=?c ?a1)[?g2]
 [?e8] [?jH] [?jE] (hpl:?eE (·.1)=false:=by rfl) :
 ?CD (UL C sp dvs E t):=by
 ext y;refine qs9 (Ww I hg hm ?_ hdb);refine ?A2 M.kp;exact nA M F hr hb hd hx I1 r q
universe e9
section
variable[?zO]{ps ks:?O}{sp:Sp}{E:XK}{x m:Str}{p pos apos kpos:Pos}{e o:Expr}[?d0]{kws:?nT}{te ta:TE}{t tk:TA}{nm:?aA Str}
variable{g:?o->?o->?o}{gV:?A->?A->?A}
universe e9
structure FnScope(N P:?O)(sc:Scope):Prop where
 kind:?rV
 co:?wW
 gen:?pP
 nd:N.Nodup
 pre:N.take P.length=P
 par:?pT
 nofree:?r3
theorem aW[?jJ]:?AO ?eX
 | [],_,_=>rfl
 | ?xZ,m,h=>by
   unfold bindL;rw[aW ?p7];split
   . have:x≠n:=?v9
     simp[this]
   . rfl
theorem Bg{N P:?O}{sc:Scope}(h1:?rV:=by exact rfl)(h2:?wW:=by exact rfl)(h3:?pP:=by exact rfl)(h4:N.Nodup:=by decide +kernel)(h5:N.take P.length=P:=by exact rfl)
 (h6:?pT:=by decide +kernel) (h7:?r3:=by decide +kernel):FnScope N P sc:=⟨h1,h2,h3,h4,h5,h6,h7⟩
theorem aX[?jJ]:?AO ?fY
 | [],_,_=>rfl
 | ?xZ,m,h=>by
   unfold bindC;rw[aX ?p7];split
   . rfl
   . have:x≠n:=?v9
     simp[this]
theorem AW[?jJ]{v:Value}:∀[?z8],P.Nodup->?s6->?lC->?aU x=?cR →
 ?eX ?aU (?m9) m x=?J
 | [],_,_,_,_,h,_,_=>?eM
 | _::_,[],_,_,_,_,h,_=>?eM
 | p::P,?gH,0,m,nd,h1,h2,hk=>by
   simp at h1 h2;subst h1;subst h2;show ?C9 ?eX p;unfold bindL;rw[aW ?xL,?iQ];simp
 | p::P,?gH,i+1,m,nd,h1,h2,hk=>by
   show ?C9 ?eX x;unfold bindL;exact ?AQ AW
theorem AX[?jJ]{v:Value}:∀[?z8],P.Nodup->?s6->?lC->?aU x≠?cR →
 ?fY ?aU (?m9) m x=?J
 | [],_,_,_,_,h,_,_=>?eM
 | _::_,[],_,_,_,_,h,_=>?eM
 | p::P,?gH,0,m,nd,h1,h2,hk=>by
   simp at h1 h2;subst h1;subst h2;show ?C9 ?fY p;unfold bindC;rw[aX ?xL,?iI];simp
 | p::P,?gH,i+1,m,nd,h1,h2,hk=>by
   show ?C9 ?fY x;unfold bindC;exact ?AQ AX
noncomputable def start(N:?O)[?bP]:St:=vs.map ?c++?nR (N.length-vs.length) ?X
noncomputable def HM(CX:qH)[?cY][?h][?jL](N:?O)(qual:Str)(scope:Scope)(f:Addr)(cd:Value)[?eD][?eC][?bQ](H:Hp)(E:XK):Cx where
 prog:=P
 w:=w
 K:=K
 mg:=mg
 base:=base
 A:=?pD
 N:=N
 s₀:=s
 H₀:=H
 env:=?g0
 outer:=outer
 stack:=?g0::outer
 ex:=[]
 calm:=true
 fn:=fun _=>true
 pn:=[]
 xe:=fun e s'=>?d ?dW (?pD) (leaving (?g0) e) (fun _ s''=>CX ?K H s E e s'') (fun e' s''=>CX ?K H s E e' s'') s'
theorem eX{sc:Scope}{n:Nat}{x:Str}(h:?kK):∃c,(?xQ n ?wT []).lookup x=?hJ:=by
 have q:=?xO ?wT n [] (?m h);exact Option.isSome_iff_exists.mp q
theorem lG{CX:qH}[?b2][?oC]{N ps:?O}{qual:Str}{scope:Scope}{f:Addr}{cd:Value}[?z]{outer:?bZ}{s s1:Shared}{H:Hp}{E:XK}[?B]{vs:?A}
 (S:?oY) (hd:?sB) (e0:?nG) (hl:?sO) [?jY]
 (x:InCallC s ?aD (?eX ?r1 ?hB ?gY) (?tI) (?fY ?r1 ?hB ?gY) s1) :
 Bp (?uS) [] ?gX H s1:=by
 have hpl:ps.length<=N.length:=by have:=?cH List.length S.pre;rw[qc1]at this;omega
 obtain⟨h1,tk,rfl,hk⟩:=x.done;have noA:∀b:Addr,b ∉ (?uS).ex:=fun b z=>?F (show b∈([]:?E) from z) ?S
 refine⟨⟨e0.mod,S.kind,rfl,rfl,?i0,fun y z c h1 h2=>?_,fun y hy=>?_,fun y c _ h=>?_,fun _=>hd,Around.frames_deeper e0.frames,?C ?uB,?tD,e0.bs,e0.bsz,fun b _ _=>noA b,?tD,e0.funs,e0.frf⟩,
  rfl,e0.bare,?m6 hk,⟨_,x.toInCall.ns,fun i y v h1 h2 h3=>?_⟩,fun y c h=>⟨_,x.cell y c h⟩,?wP ?G,fun y c h=>?_,fun p hp=>?F (show p∈([]:Bl) from hp) ?S,e0.hok.kept hk,?_⟩
 . exact name_of_addr x.apart (qn8 h1) (qn8 h2)
 . have hy:?eK y=?eT\/?eK y=?hO:=hy;rcases hy with hy | hy
   . exact eX hy
   . exact ?F rfl (S.nofree _ (qn8 hy))
 . exact qd4 (x.above y c (qn8 h))
 . have hi:?x2:=by
    unfold start at h2;by_cases hi:?x2
    . exact hi
    . rw[qc4 (by simpa using hi)]at h2;rw[qs7]at h2;split at h2<;>cases h2
   have ha:?lC:=by
    unfold start at h2;rw[qb8 (by simpa using hi),qa8]at h2;cases e:vs[i]? with
    | none=>rw[e]at h2;cases h2
    | some a=>rw[e]at h2;cases h2;rfl
   obtain⟨u,hu,rv⟩:=r.get ha
   have hp:ps[i]?=?c y:=by
    rw[←S.pre,List.getElem?_take_of_lt ?bI];exact h1
   have ndP:ps.Nodup:=by rw[←S.pre];exact S.nd.sublist (List.take_sublist _ _)
   refine⟨u,rv,?_⟩;rcases S.par y (qb6 hp) with k | k
   . exact ?m ⟨k,AW ndP hp hu k⟩
   . obtain⟨c,e⟩:=eX (n:=?j9) k;refine ?C ⟨?m k,c,e,?_⟩;have q:=x.cell y c e;rw[AX ndP hp hu (by show ?eK y≠_;rw[k];decide)]at q;exact q
 . exact ?wP (qd4 (x.above y c (qn8 h)))
 . unfold start;show _=N.length;rw[qb1,qa2,qk9];omega
theorem An7{CX:qH}[?b2][?oC]{k:Nat}{f:Addr}{name qual:Str}{params:Arguments}{body:?cK}{scope:Scope}{dV kV doc pm Ds ct oc:Value}{an od:OAddr}
 {osl:Q5}{N ps:?O}{sp:Sp} (lk:?lZ f=?c ⟨oc,od,.func (?AR ct),osl⟩) (hcd:W.codeIn K Ds ?b9=true) (S:?oY)
 (len:?vX)
 (hbody:∀[?eD] [?eC] [?bQ] (H:Hp) [?bP] (Q:VK) (E:XK),Gb k (?nU (envOfC ?b9 ?bJ ?aD f Ds))->?lH →
   ∃t,jS (?zY Ds) body t/\t { nx:=fun _ H'=>Q ?D H',rt:=Q } ?gX H) :
 Bx P w K mg ?aT CX (k+1) f (?AR ct) ps sp:=by
 refine⟨len,fun A outer s H args us vs Q E hr e0 hb r JE=>?_⟩;have hl:=len _ _ _ _ JE;have KX:?fZ:=e0.mod.kin.keeps ?xS;have lim:s.heap.NoLimit:=e0.mod.nolimit.keeps ?xS
 have hkind:∀y∈ps.zip us,?eK y.1=?cR\/(?eK y.1=?eT/\((?tI).lookup y.1).isSome=true):=fun⟨n,v⟩ hy=>by
  rcases S.par n (qq3 hy).1 with q | q
  . exact ?m q
  . exact ?C ⟨q,?xO _ _ _ (?m q)⟩
 refine codeAny_call_function hr.depth (KX _ _ lk) rfl S.co S.gen rfl (PySem.W.codeRec_of KX hcd) (hb _ _ _ _ ?_);refine wpAny_newFunctionEnv_cells S.kind hkind fun env he s1 x=>?_;subst he;refine⟨lim.keeps x.toInCall.keep,codeAny_func ?_⟩;obtain⟨t,ht,hq⟩:=hbody A ?K s H vs Q E (hr.deeper _) JE;have I:Bp (?zY Ds) [] ?gX H s1:=lG S hr.hd e0 hl r x;refine qp1 (ht [] s1 ?gX H _ I hq) (fun fl s' hs=>?_) fun e s' hs=>hs
 have fin:∀{σ':St}{H':Hp}{v:V}[?T],Bp (?zY Ds) [] σ' H' s'->?bF->?i9->?r2 :=
  fun {σ' H' v u} J rv q=>⟨v,H',J.os,J.bare,J.base,J.hok,rv,q⟩
 cases fl with
 | ret u =>
   obtain⟨v,σ',H',J,rv,q⟩:=hs;exact fin J rv q
 | next =>
   obtain⟨σ',H',J,q⟩:=hs;exact fin (v:=V.non) (u:=Value.none) J rfl q
 | brk =>
   obtain⟨_,_,_,q⟩:=hs;exact ?d9 q
 | cont =>
   obtain⟨_,_,_,q⟩:=hs;exact ?d9 q
section
variable{X:Cx}{x:Str}{p pos:Pos}{e:Expr}[?d0]{t:TA}{id T:String}{r:?fF}
noncomputable def tCB(r:?fF)(t:TA):TE:=fun σ H Q=>t σ H fun vs H1=>r vs H1 Q
theorem Az(hc:F0 X ?fQ r)(hm:?kO)(hv:?iO=?c ?fQ)[?e8](hg:?nQ:=by rfl)[?jM][?jH]
 [?jE] (hpl:?eE (·.1)=false:=by rfl):?xT:=by
 ext y;refine ?C0 I;exact ?A3 PyProof.Rows.callWith_builtin1
theorem C8(hc:F0 X ?k9 r)[?gD](hm:?kO)(hv:?iO=?c ?k9)[?e8][?jM][?jH]
 [?jE] (hpl:?eE (·.1)=false:=by rfl):?xT:=by
 ext y;refine ?C0 I;exact ?A3 qf1
universe e9
universe L2
namespace HT
open PySem PyProof.Rows
section
open PySem.SeqAt
open PySem.AutoSeq1 (wpAny_loadPart')
open PySem.MeetsSeq PySem.MeetsSeq2 PySem.MeetsSeq3
universe e9
section
variable[?oM][?z][?Z][?bR]
theorem cat_tup{t b:Addr}{vs ws:?o}[?b1](ht:?f3 ?p t ?m7)(hb:?f3 ?p b ?nM)(hv:vs≠[])
 (h1:ws=[]->Q ?h9 s) (h2:ws≠[]->Q ?h8 { s with heap:=?B7 ?fU ?pB })
 (hsz:vs.length+ws.length<=sizeLine):?A1 ?a0 (?cS .Add ?h9 (?k b)):=by
 obtain⟨⟨cls,dd,data,sl⟩,ho,hc,n,hd⟩:=id ht;obtain⟨⟨Ap2,dd2,data2,sl2⟩,ho2,hc2,n2,hd2⟩:=id hb;simp only at hc hd hc2 hd2;subst hc hd hc2 hd2;have e:vs.toArray++ws.toArray=?pB:=?aV
 by_cases hw:ws=[]
 . exact ?rG ?vU ?y2 ?rF ?wK qt1 qs5 ?y3
    (tuple_addW1 t b ?m7 ?nM n n2 dd dd2 sl sl2 (by simpa using hv) (by simp[hw])) ⟨ho,ho2,h1 hw⟩
 . refine ?rG ?vU ?y2 ?rF ?wK qt1 qs5 ?y3
    (tuple_addW2 t b ?m7 ?nM n n2 dd dd2 sl sl2 (by simpa using hv) (by simpa using hw) (by rw[qc3,qc3];exact hsz)) ⟨ho,ho2,?_⟩
   rw[e];exact h2 hw
noncomputable def sIx(n d:Nat):?a9->Nat
 | none=>d
 | ?J=>?nJ
theorem sIx_none(n d:Nat):sIx n d ?X=d:=rfl
theorem sIx_nat(n d k:Nat):sIx n d (?c ?nX)=min k n:=by
 show(if ?nX<0 then(?nX+?aR).toNat else min (k:Int).toNat n)=min k n;rw[?t ?bI,qe4]
theorem wR(n d:Nat)(hd:d<=n)(o:?a9):sIx n d o<=n:=by
 cases o with
 | none=>exact hd
 | some v =>
   show(?nJ)<=n;by_cases hv:v<0
   . rw[?N hv];omega
   . rw[?t hv];exact Nat.min_le_right _ _
theorem jM(v:Int)(n d:Nat):(if v<0 then max (v+?aR) 0 else min v ?aR)=((sIx n d ?eQ:Nat):Int):=by
 show(if v<0 then max (v+?aR) 0 else min v ?aR)=(((?nJ):Nat):Int)
 by_cases hv:v<0
 . simp only[?N hv];omega
 . simp only[?t hv];omega
theorem IA[?eA](n:Nat):?s5=(?j2,?sE):=by
 have h1:¬(?cF<0):=O9m
 unfold Builtin.Slice.sliceAdjust;simp only[h1,if_false];refine Prod.ext ?_ ?_
 . cases lo with
   | none=>rfl
   | some v=>exact jM v n 0
 . cases hi with
   | none=>rfl
   | some v=>exact jM v n n
theorem GC(i j:Nat):?l5 (i:Int) ?n3 1=j-i:=by
 unfold Builtin.Slice.slicePlaces;have h1:?cF > 0:=O9m
 simp only[h1,if_true,Int.ediv_one];split<;>omega
theorem Xj{v:Value}{o:?a9}{Q:?a9->?bX}(p:?gN v o)(h:Q o s):?A1 ?a0 (Builtin.Slice.slicePartIndex v):=by
 cases p with
 | none=>exact ?q0 h
 | int i t=>exact slicePart_int h
theorem Ua{sl:Addr}[?zS]{n:Nat}{Q:Int × Int × Nat->?bX}[?yX]
 (h:Q (?j2,1,?tB-?qP) s):?A1 ?a0 (Builtin.Slice.sliceApplied ?gQ (?bE ?aR)):=by
 obtain⟨os,hos,hcs,hds⟩:=id hs;unfold Builtin.Slice.sliceApplied Builtin.Slice.sliceFields;refine qa7 (qa7 (qh3 hos hds (x:=vl) rfl (qa7 (qh3 hos hds (x:=vu) rfl (qa7 (qh3 hos hds (x:=?aO) rfl (qc6 ?_)))))));refine qa7 (?q0 ?_);show ?AS (if (?cF==0)=true then _ else _);rw[?t ?bT];refine qa7 (Xj pl (qa7 (Xj pu (qa7 (qc6 ?_)))));show ?AS (match ?s5 with | (lo,hi)=>?bE (lo,?cF,?l5 lo hi 1));rw[IA lo hi n];show ?AS (?bE (?j2,?cF,?l5 ?j2 ?sE 1));rw[GC];exact qc6 h
theorem nH(xs:?bM)(i k:Nat):((?tU k).filterMap ?vZ).toArray=((xs.toList.drop i).take k).toArray:=by
 have e:(?vZ)=?s2:=by
  funext m
  have:?u9=i+m:=O9m
  rw[this]
 rw[e];have:=pick_run xs i k;rw[List.filterMap_map]at this;have e2:((fun x=>xs[x]?) ∘ fun x=>i+x)=?s2:=rfl;rw[e2]at this;rw[this]
theorem getItem_tuple_cut{t sl:Addr}{items:?bM}[?zS][?b1](ht:?f3 ?p t ?dL)[?yX]
 (hw:¬(?aY=0/\?cV=items.size))
 (h:Q ?h8 { s with heap:=?fU { cls:=?dT,data:=?a6 (?AE ?aY).toArray } })
 (hsz:?BN items.size):?A1 ?a0 (?hS ?h9 ?gQ):=by
 have jE:sizeOk (?a6 (?AE ?aY).toArray):=by
  show(?AE ?aY).toArray.size<=sizeLine;rw[qc3,qc1,qg6,qv1];omega
 have hj:?cV<=items.size:=wR _ _ ?G hi;obtain⟨os,hos,hcs,hds⟩:=id hs;have hTs:?nN ?gQ "slice":=⟨os,hos,hcs⟩
 unfold getItem
 try with_reducible refine qr3 ?_
 first | refine qa7 (qc6 ?_) | skip
 refine qa7 (wpAny_sequenceKey ?j7 ?bT ?_)
 refine qa7 (wpAny_callSpecial?_slot (name:=Str.ofString ?vH) ?j7 qv8
  (ql1 qv8 ?j7 entry_tuple_getitem ?_ (args_tuple_getitem _ _)))
 show ?AS (Builtin.Tuple.tupleItemsOf ?h9>>=_);refine qa7 (tupleItemsOf_ ht ?_);refine qa7 (wpAny_typeOf hTs ?_);rw[?N ?bT];refine qa7 (Ua hs pl pu ?_)
 have hno:¬(?x7):=by
  intro q;rw[qc8,qc8]at q;have q1:?rJ=0:=?sL q.1.1;have q2:?cV-?aY=items.size:=?sL q.2;exact hw ⟨O9m,O9m⟩
 show ?AS (if ?x7 then _ else _);rw[?t hno,nH]
 first
  | exact ?tP
  | exact ?A9 qa7 (qc6 (qc6 ⟨_,rfl,qc6 h⟩))
  | exact qa7 (?A9 qc6 (qc6 ⟨_,rfl,qc6 h⟩))
  | exact qa7 (?tP)
universe e9
universe HT
namespace L2
open PySem PySem.Spec PyProof.Rows
noncomputable abbrev TO:=?AF St ?lS
noncomputable def PO(X:Cx)(e:?wJ)(t:TO):Prop :=
 ∀[?r] (Q:?lS),?l->?e1 →
   ?zV (evalPart e ?f) (fun u s'=>∃o H',?nB/\?gN u o/\Q o H')
noncomputable def QU:TO:=?C6 ?X
inductive pX(Q:?lS)(x:V)(H1:Hp):Prop
 | mk:∀i,?iN->(Q (?c i) H1)->?oR
noncomputable def Ad7(t:TE):TO:=?zW t ?oR
section
variable{X:Cx}[?jW]{lo hi:?wJ}{tl th:TO}{pos p2:Pos}
theorem Ev:PO X ?X QU:=by
 ext y;rw[evalPart_none];exact qc6 ⟨?X,H,I,?aO,h⟩
theorem C4(h:?lR):PO X (?c e) (Ad7 te):=by
 intro Af s σ H Q I hw;rw[evalPart_some];refine Du (?A7 h hw) ?i6;ext a5;obtain⟨i,rfl,q⟩:=q1;obtain⟨t,rfl⟩:=r1;exact⟨?c i,H1,I1,?j i t,q⟩
noncomputable def SlR(X:Cx)[?zN]:Prop :=
 ∀[?r] (x:V) (v vl vu:Value) [?eA] (sl:Addr) (Q:VK),?l->?c3->?t4->?pL->?uD->r x lo hi H Q →
   ∃T id,typeLookup ?k9 ?vH=?bE (?c ?fQ)/\?nN v T/\?zV (?hS v ?gQ) ?a8
noncomputable def tSl[?zN](te:TE)(tl th:TO):TE:=fun σ H Q=>te σ H fun x H1=>tl σ H1 fun l H2=>th σ H2 fun u H3=>r x l u H3 Q
theorem Cv{r:?i2}(hr:SlR X r)[?cZ](hl:PO X lo tl)(hu:PO X hi th):?B4 (?gZ e (.Slice lo hi ?X p2) pos) (tSl r te tl th):=by
 ext y;refine ?w6 (Du ?cP ?cJ);ext a5;refine wpAny_Slice (Du (?zZ hl _) fun vl s2 ⟨l,H2,I2,pl,q2⟩=>Du (hu Af s2 σ H2 _ I2 q2) fun vu s3 _z=>?_);obtain⟨u,H3,I3,pu,q3⟩:=_z;rw[evalPart_none];refine qc6 ?_;have I4:?A0 H3 ?nZ:=I3.kept (t':=s3.toks) ?iB;obtain⟨T,id,hT,ht,hg⟩:=hr Af ?nZ σ H3 x v vl vu l u ?mZ Q I4 r1 (Heap.IsSliceOf.new ..) pl pu q3;show ?d ?g X.A (?rA e (.Slice lo hi ?X p2) v (?k ?mZ)) ?a8 ?i ?nZ;exact tail_any (ops:=[?k ?mZ,v]) ht hT hg (by with_unfolding_all rfl)
noncomputable def Cf[?aK][?eA]:?A:=?B2 xs.drop
theorem Vy[?aK][?eA]:(?fK).length<=xs.length:=by
 unfold Cf;rw[qc1,qg6];omega
inductive vU[?h][?zM]:Prop
 | mk:∀a xs,?c1->(?bW)->(¬(?cU=0/\?hC=xs.length))->(?AP ?aS (?fK))->?qX
noncomputable def A05[?h]:?i2:=fun x lo hi H Q=>?qX
theorem wQ:SlR X (A05 X.K):=by
 ext z2;obtain⟨a,xs,rfl,hx,hw,q⟩:=h;cases rx;obtain⟨its,r,ht,hz⟩:=?dA hx;have hlen:its.toArray.size=xs.length:=by rw[qc3];exact r.length.symm
 refine⟨?l8,_,qv8.lookup,?j7,?_⟩;refine HT.getItem_tuple_cut ht hs pl pu (by rw[hlen];exact hw) ?_ (by rw[hlen];exact hz);rw[hlen];refine(?CI ?aS);exact⟨?pX,_,?B2 r.drop,?n1⟩
inductive qC[?h][?cX]:Prop
 | mk:∀a b xs ys,?c1->(y=?k b)->(?bW)->(Ed K H b ys)->(xs≠[])->(xs.length+ys.length<=sizeLine)->((ys=[]->Q ?dO H))->((ys≠[]->?AP ?aS (xs++ys)))->?rN
noncomputable def Ag4[?h]:R2:=?B5 ?rN
theorem Vals.nil_iff[?aL][?B](r:?V):us=[]↔xs=[]:=by
 cases r with
 | nil=>simp
 | cons _ _=>simp
theorem sA:?BM (?cS .Add) (Ag4 X.K):=by
 ext g4;obtain⟨a,b,xs,ys,rfl,rfl,ha,hb,hx,hz,q1,q2⟩:=h;cases rx;cases ry;obtain⟨its,r1,p1,_⟩:=?dA ha;obtain⟨its2,r2,p2,_⟩:=?dA hb;refine HT.cat_tup p1 p2 (fun z=>hx (r1.nil_iff.mp z)) (fun z=>⟨?a7,H,I,rfl,q1 (r2.nil_iff.mp z)⟩) (fun z=>?_) (by rw[←r1.length,←r2.length];exact hz);refine⟨?fX,_,?AI ?aS (xs++ys),rfl,q2 (fun w=>z (r2.nil_iff.mpr w)) _ (?fH ?G)⟩;exact⟨by rw[qb1];exact hz,_,r1.append r2,?n1⟩
universe e9
noncomputable def TF(n:Nat)(i:Int):?aA Nat:=if 0<=i then(if i<n then ?c i.toNat else none) else if ?kJ then ?c ?xK else none
noncomputable def V3{α:Type}(xs:?h7)(i:Int):?aA α:=(TF ?bB i).bind fun j=>xs[j]?
theorem jD{n:Nat}{i:Int}{j:Nat}(h:TF n i=?fC):?tH i n=?fC/\j<n/\?kJ/\i<n:=by
 unfold TF at h;by_cases h0:0<=i
 . rw[?N h0]at h;by_cases h1:i<n
   . rw[?N h1]at h;have e:?w7:=qe1 h;exact⟨by rw[?kS h0 h1,e],O9m,O9m,h1⟩
   . rw[?t h1]at h;cases h
 . rw[?t h0]at h;by_cases h1:?kJ
   . rw[?N h1]at h;have e:?xK=j:=qe1 h;exact⟨by rw[?m3 ?bI h1,e],O9m,h1,O9m⟩
   . rw[?t h1]at h;cases h
theorem jQ{α:Type}{xs:?h7}{i:Int}{v:α}(h:V3 xs i=?J):∃j,?tH i ?bB=?fC/\xs[j]?=?J/\?sF/\-(xs.length:Int)<=i/\?sD:=by
 unfold V3 at h;cases e:TF xs.length i with
 | none=>rw[e]at h;cases h
 | some j =>
   rw[e]at h;obtain⟨h1,h2,h3,h4⟩:=jD e;exact⟨j,h1,h,h2,h3,h4⟩
theorem Bk{α:Type}{xs:?h7}{j:Nat}{v:α}(h:xs[j]?=?J):V3 xs ?n3=?J:=by
 have hj:?sF:=(?j3 h).1
 have e:TF ?bB ?n3=?fC:=by
  unfold TF;rw[?N ?bI,?N ?bI];simp
 unfold V3;rw[e];exact h
noncomputable def jR(b:Expr):Prop:=∀o i,?qT b ?b7 o i=operate [o,i] (?hS o i)
noncomputable def IxR(X:Cx)(r:R2):Prop :=
 ∀(value slice:Expr) [?r] (x y:V) (v u:Value) (Q:VK),?l->?c3->?fG->?vN →
   ?qT slice ?b7 v u=operate [v,u] (?hS v u)->?zV (?rA ?gO slice v u) ?a8
noncomputable def MtR(X:Cx)(id:String)[?jO]:Prop :=
 ∀[?r] (x:V) [?aK] (v:Value) [?bO] (Q:VK),?l->?c3->?V->?u8 →
   ?tC
section
variable{X:Cx}[?oO][?Q]
theorem Bc{r:R2}(hr:IxR X r)[?c7](hs:jR b):?B4 (?gZ a b pos) ?iT:=by
 ext y;exact ?w6 (zG ha hb I h fun v u s2 x y H2 I2 rx ry q=>hr a b Af s2 σ H2 x y v u Q I2 rx ry q (hs _ _))
inductive VW[?h][?cX]:Prop
 | mk:∀p xs i v,(x=?cA)->(y=?aH)->(?vE)->(V3 xs i=?J)->(Q v H)->?xD
noncomputable def Ag2[?h]:R2:=?B5 ?xD
inductive vW[?h][?cX]:Prop
 | mk:∀p xs i v,(x=?cA)->(y=?aH)->(Ed K H p xs)->(V3 xs i=?J)->(Q v H)->?u2
noncomputable def WV[?h]:R2:=?B5 ?u2
theorem tF:IxR X (Ag2 X.K):=by
 ext yC;obtain⟨its,r,pl,hz⟩:=?fI;ext y9
 by_cases h0:0<=i
 . have hj:?w7:=by
    rw[?kS h0 h5]at h1;exact ?h2
   exact item_listR ?iZ h0 O9m (by rw[hj];simpa using ew) fin hs
 . have hj:(i+?xM).toNat=j:=by
    rw[?m3 ?bI h4]at h1;rw[qc3,←hl];exact ?h2
   exact ?r4 (x:=w) ?pH ?xX
    (wpAny_getItem_list_neg (Q:=?tJ) ?iZ O9m (by rw[qc3]<;>omega) O9m (by rw[hj];simpa using ew) ?vW) hs
theorem YC:IxR X (WV X.K):=by
 ext yC;obtain⟨its,r,pl,hz⟩:=?fV;ext y9
 exact ?r4 (x:=w) pl.typeIs slot_tuple_getitem.lookup
  (getItem_tuple (j:=j) (Q:=?tJ) pl O9m O9m (by rw[qc3,←hl];exact h1) (by simpa using ew) ?vW) hs
theorem GK(its:?o)(n j:Nat)[?d3]:?wM (·.setIfInBounds j u) ?gK={ cls:=?d7,data:=?a6 (its.set j u).toArray n }:=by
 simp[Obj.mapSeq]
theorem Bp.lst[?Y]{p:Addr}[?aL][?e](h:?k4) :
 ∃(its:?o) (n:Nat),?eG/\?pC/\?cE:=by
 obtain⟨z,its,n,r,e⟩:=?aE p _ h;exact⟨its,n,r,e,z⟩
theorem Bp.lstUpd[?Y]{p:Addr}[?jZ]{its its':?o}{n n':Nat}{f:Obj->Obj}[?e](h:?k4)
 (ho:?pC) (hf:f ?gK=?qQ) (r:?u ys its') (hz:?sM) (t:Nat) :
 Bp X Af σ (upd H p (?aW ys)) { s with heap:=?n5 p f,toks:=t }:=by
 have e:(?n5 p f).get? p=?c ?qQ:=by
  rw[Heap.get?_update_self f ho (by rw[hf]<;>rfl),hf]
 refine I.write (x:=p) (e:=p) (by rw[h];trivial) ?dP (fun b u hb q=>(Heap.get?_update_other _ _ (?eR hb)).trans q) ⟨_,e⟩ ?_;exact⟨hz,its',n',r,e⟩
inductive qA(o:V)(i:V)(v:V)(H:Hp)(Q:(?U)):Prop
 | mk:∀p xs k j,(o=?cA)->(i=?j k)->(?k4)->(TF ?bB k=?fC)->(Q (upd H p (?aW (xs.set j v))))->?rI
noncomputable def Ag0:V->V->?AF V ?U:=fun o i v H Q=>?rI
theorem Fm:Aq0 X Ag0:=by
 intro Af s σ H o i v ov iv u Q I ro ri rv h;obtain⟨p,xs,k,j,rfl,rfl,hp,hj,q⟩:=h;cases ro;obtain⟨t,rfl⟩:=ri;obtain⟨its,n,r,ho,hz⟩:=I.lst hp;obtain⟨h1,h2,h3,h4⟩:=jD hj;have hl:=r.length;have hn:=bV
 have I':Bp X Af σ (upd H p (?aW (xs.set j v))) { s with heap:=?n5 p (?wM (·.setIfInBounds j u)) } :=
  I.lstUpd hp ho (GK its n j u) (r.set rv j) (by rw[qi6];exact hz) ?lY
 by_cases h0:0<=k
 . have hk:k.toNat=j:=by
    rw[?kS h0 h4]at h1;exact ?h2
   exact PySem.W.ki_setAt ho h0 O9m (by rw[qc3,←hl];exact h4) (?C7 q)
 . have hk:(k+?xM).toNat=j:=by
    rw[?m3 ?bI h3]at h1;rw[qc3,←hl];exact ?h2
   exact PySem.W.ki_setBack ho O9m (by rw[qc3,←hl];exact h3) O9m (?C7 q)
theorem BF[?eA](n:Nat):(?o0).1=((?d4 n 0 lo:Nat):Int)/\(?o0).2.1=((?d4 n n hi:Nat):Int)/\(?o0).2.2=1:=by
 refine⟨?_,?_,rfl⟩
 . cases lo with
   | none=>simp[sliceBounds,HT.sIx]
   | some i =>
     ext yI
     . simp only[h,if_true]<;>omega
     . simp only[h,if_false]<;>omega
 . cases hi with
   | none=>simp[sliceBounds,HT.sIx]
   | some i =>
     ext yI
     . simp only[h,if_true]<;>omega
     . simp only[h,if_false]<;>omega
theorem a8(its:?o)[?eA]:slicePick ?aP lo hi ?X=((its.drop (?sI)).take (?d4 ?kN ?kN hi-?sI)).toArray:=by
 obtain⟨h1,h2,h3⟩:=BF lo hi its.toArray.size;unfold slicePick;rw[h1,h2,h3];simp only[sliceRange_one,pick_run,qc3]<;>rfl
inductive VU[?h][?zM]:Prop
 | mk:∀a xs,?c1->(?dZ)->(?AP ?aW (?fK))->?t1
noncomputable def Af9[?h]:?i2:=fun x lo hi H Q=>?t1
theorem qY:SlR X (Af9 X.K):=by
 ext z2;obtain⟨a,xs,rfl,hx,q⟩:=h;cases rx;obtain⟨its,r,ht,hz⟩:=?h1 hx;have hlen:=r.length;refine⟨?lG,_,?xX,ht.isList.typeIs,?_⟩;refine wpAny_getItem_list_slice ht.isList hs pl pu ?aO ?S ?_ (by rw[qc3]<;>omega);rw[a8,←hlen];refine(?CI ?aW);exact⟨?pX,_,0,?B2 r.drop,?eZ⟩
theorem CP:F0 X (?c4 "len") (fun xs H Q=>∃p ys,?mH/\(?lV\/?lK)/\Q (?j ys.length) H):=by
 ext yJ;have hn:=bV;rcases hq with hq | hq
 . ext o8;exact Calls.call_len_list ?iZ ?eF ?q1
 . ext oD;have hlen:=r'.length;exact len_tuple pl ?eF ?q1
theorem cP:F0 X (?d7) (fun xs H Q=>∃p ys,?mH/\(?lV\/?lK)/\?BJ ?aW):=by
 ext yJ
 have fin:∀(its:?o),?u ys its->?sM->∀(h':Heap) (c':Nat),(∀b o',?aX b=?c o'->?dB=?c o') →
  ?dU ?aD=?c { cls:=?d7,dict:=none,data:=?a6 ?aP c',slots:=#[] }->?AW ?h8 ?fN:=fun its r' hz h' c' kp e =>
  ⟨?fX,_,?fR (t':=s.toks) kp ?G (show ?aF ?W X.w _ h' _ (?aW ys) from⟨hz,its,c',r',e⟩),rfl,?lA⟩
 rcases hq with hq | hq
 . ext o8;obtain⟨o,ho,hc,n,hd⟩:=pl.isList;exact ?AH ?dP
 . ext oD;have hlen:=r'.length;obtain⟨o,ho,hc,n,hd⟩:=pl;exact ?AH (?C rfl)
theorem m9:F0 X (?dT) (fun xs H Q=>∃p ys,?mH/\((?lV/\?BJ ?aS)\/(?lK/\Q ?dK H))):=by
 intro Af s σ H xs us Q I r h;obtain⟨p,ys,rfl,h⟩:=h;obtain⟨u,rfl,rx⟩:=Vf r;cases rx;rcases h with⟨hq,q⟩|⟨hq,q⟩
 . ext o8;refine call_tuple_list ?iZ (fun h' kp=>?_) ?eF;have I1:?nL:=?iE (t':=s.toks) kp
   have I2:Bp X Af σ (upd H ?rE (?aS ys)) { s with heap:=?B7 h'.push ?aP } :=
    ?k2 (t':=s.toks) (?iL) ?G (show ?aF ?W X.w _ _ _ (?aS ys) from⟨hz,its,r',?n1⟩)
   exact⟨?k ?rE,_,I2,rfl,q _ (I1.hok.fresh ?G)⟩
 . ext oD;exact call_tuple_same pl ⟨?cA,H,I,rfl,q⟩
noncomputable def tyV[?h](T:String)(x:V)(H:Hp):Prop:=match x with
 | ?bK=>T="str"
 | ?c9=>T="int"
 | ?cA=>(T=?lG/\∃xs,?vE)\/(T=?l8/\∃o,?lZ p=?s/\?o4/\?mL) ∨
    (T="dict"/\((∃kvs,H p=?c (.dK kvs))\/∃kvs,H p=?c (.dT kvs)))\/(T="set"/\∃S n,H p=?c (?uG))
 | _=>False
theorem WI[?Y]{T:String}{x:V}{v:Value}[?e](r:?c3)(ty:tyV X.K T x H) :
 ?nN v T/\∀a,v=?a7->∃ob,?aX a=?c ob/\ob.dict=none:=by
 cases x with
 | str z =>
   ext c8;cases (show T="str" from ty);exact⟨typeIs_str s z t,?v7⟩
 | int i =>
   ext c8;cases (show T="int" from ty);exact⟨typeIs_int s i t,?v7⟩
 | ref p =>
   cases r;rcases ty with⟨rfl,xs,hq⟩|⟨rfl,o,hk,hc,hd⟩|⟨rfl,hk⟩|⟨rfl,S,n,hk⟩
   . obtain⟨its,_,pl,_⟩:=?fI;refine⟨?pH,?vK⟩;cases e;obtain⟨o,n,e,c,hd,_⟩:=pl;exact⟨o,e,hd⟩
   . refine⟨⟨o,?cB p o hk,hc⟩,?vK⟩;cases e;exact⟨o,?cB _ o hk,hd⟩
   . have z:∃o,?aX p=?s/\o.ExactDict:=by
      rcases hk with⟨kvs,hk⟩|⟨kvs,hk⟩
      . ext yU
      . ext yU
     obtain⟨o,e,ex⟩:=z;ext yR
   . obtain⟨o,_,_,_,e,ex,_⟩:=?qF;ext yR
 | _=>exact ?d9 ty
structure Bh7[?h](T:String)[?jO](t:TA)(σ:St)[?e9]:Prop where
 mk::(left:tyV K T x H1) (right:t σ H1 fun xs H2=>r x xs H2 Q)
noncomputable def tBM[?h](T:String)[?jO](to:TE)(t:TA):TE:=fun σ H Q=>to σ H fun x H1=>Bh7 K T r t σ Q x H1
variable{o e:Expr}[?d0]{to:TE}{t:TA}{name:Str}{apos cpos:Pos}{T id:String}{r:V->?fF}
theorem Ag9(pa:PlainAttrs T)(slot:Slot T ?M id)(hty:typeOf ?fQ=?bE (?bG "method_descriptor"))(hm:MtR X id r)(ho:?t2)[?e8]
 (hbase:?nK o ?M ?f (?f1)=?f1:=by rfl)
 (hfew:((?cD cpos (?mQ)).all (fun x=>!x.1)&&(?uF cpos (keywordEach [] ?f)).all (fun x=>x.1.isSome)
   && ?P ((e::es).length+([]:?nT).length+(if ([]:?nT).isEmpty then 0 else 1)<30))=true:=by rfl)
 (hline:(apos.endLine==cpos.line)=true:=by rfl) [?yT] (hplain:?tM (·.1)=false:=by rfl) :
 ?B4 (?aG (?bA o ?M apos) ?aB [] cpos) (tBM X.K T r to t):=by
 ext y;refine wpAny_Call_method_late hbase hfew hline rfl (Du (?A7 ho h) ?cJ);obtain⟨x,H1,I1,r1,ty,q1⟩:=_z;obtain⟨h1,h2⟩:=WI I1 r1 ty;refine⟨T,id,pa,slot,hty,h1,h2,?_⟩;have hA:=ha cpos Af s1 σ H1 _ I1 q1;rw[hs]at hA ⊢;refine qq1 (by show(false || ?tM (·.1))=false;rw[hplain]<;>rfl) (qw1 ?_);exact Du hA fun us s2 ⟨vs,H2,I2,r2,q2⟩=>hm Af s2 σ H2 x vs v us Q I2 r1 r2 q2
universe e9
noncomputable def MtM(X:Cx)(id:String)[?jO]:Prop :=
 ∀[?r] (x:V) [?aK] (v:Value) [?bO] (Q:VK),?l->?c3->?V->?u8 →
   ?tC
theorem Vals.one:∀{x:V}[?B],?pK->?pW
 | _,_,?H r ?v=>?wA
theorem Vals.eraseIdx:?C5 (xs.eraseIdx i) (us.eraseIdx i)
 | _,_,_,?v=>?v
 | _,_,0,?hW=>t
 | _,_,i+1,?dJ=>?H r (Vals.eraseIdx i t)
theorem Vals.rep[?aL][?B](h:?V):∀k:Nat,?u (?nR k xs).flatten (?nR k us).flatten
 | 0=>?v
 | k+1=>by
   rw[qj1,qj1,ql5,ql5];exact ?u0 h (Vals.rep h k)
end
mutual
#check(4,[?a,?b,some,.int,.inr,∀(K:W.Frag),a,.lst,X.env,.inl,?n V,.ref,∀{K:W.Frag},a,?n Int,List,(?Q),Reps,∀(hK:X.K=K:=by rfl),a,?c o,.(by simp at hf hg;subst hf hg),decide,.tup,wpAny,s.heap.objs.size,?d i,Fj fam w,Nat->Int,∀(I:?qS),a,?n ?dR,?a6 H H',if_pos,(i+1),?n D,p.isList,V.int,if_neg,∀(H:Hp)(Q:VK),a,.(by simp<;>omega),its.toArray,.str,absurd,pure,.type,.(by simp),.non,?k a,.nil,IsPair,.(by decide +kernel),.(by ext V),H p=none,bootBuiltins,(by omega),[a,b],?CJ w,.(by ext K),?k b,qa1 _,.Call,Same,.builtin,List.replicate,Hp->Prop,∀(w:?m),a,Oo.2,I.list,?n Addr,?c .cell,true,(?k D),.cons,?c v,ns.map,xs[i]?=?b3,?n Str,eval,?B4 a xs,∀{f:?dJ},a,.(by simpa using this),∀{es:?hP},a,.Attribute,xs.length,.Name,.seq,Pv i ys τ H,I.tuple,(e::es),?c c,(?gG),deps ds,CD h0,?BR vs ds,?c x,∀(Pv:?tB)(h0:Pv 0 [] τ H),a,∀{Af:Bl}{σ:St}{H:Hp}{s:Shared},a,∀{ns:?m},a,false,(pA X H d),fam<0,"int",I.kIn,?P ?c7,?i z,(?g []),(.ListComp elt [⟨tg,iter,ifs,0⟩] sc pos),?i rfl,?AZ v d,X.prog,List.range,(?S),d::ds,s.heap,_::_,IsZip,.bool,?d n,(?mS),∀(x0:A0) (x1:A1) (x2:A2) (x3:A3) (x4:A4) (x5:A5) (x6:A6),a,.(by obtain⟨a,vs,rfl,q,r⟩:=hy;cases ry),.(by cases (show V.ref a=_ from h')),∀(hu:X.A.units+n<cLine),a,∀{vs:?j}{ds:?F},a,∀(n:Nat)(f:?z),a,∀{ws:Am}{fam:Int},a,∀(ns:?m),a,∀(xs:?j),a,(?lR),?u ds,.none,(?dK ?bI X.w),(v:V),Str->?eO ?dR,"list",(n+1),.bl b,?c .free,?n (Str × Addr),(a:Addr),base,IntMulOk,St->?a9,?I ?Z,?j->?B9 Hp VK,[a,b,c],(n,k),w::r,?aC hq,X.mg,(f i),Pv ?E,Hu n f,qa3.mp,s₁.heap,∀(h0:p0) (h1:p1) (h2:p2) (h3:p3) (h4:p4) (h5:p5) (h6:p6),a,∀{te:TE}{D:Addr}{Q:?a9}{τ:St}{H:Hp},a,.(by have e:¬?fL:=O9m),∀{a:Addr}{xs:?j},a,∀{w:?m},a,∀(vs:?j),a,∀{fam:Int},a,(O9m),qual,call_meets,0<fam,?p X.K H vs ds,Ite K a,(?AZ x d),(D9 ns),⟨_,e,rfl⟩,"tuple",name,Pv i σ H,Vals,qb3 e,Rows,w1.extBut,Al f n,(fun z=>?oI),(ys++[y]),v=?S,Nat->?z,model,(?iW),"bool",lv fam w,none,(?a1),SameX,Value,f∈ws,?d b,qa7 ?_,?aT x px,2 ^ 63,starEach,s₁,?k ?w,H D=none,.(by cases (?BC ?c9);cases (show v=?hO b from ry)),.(by cases (?BC ?R);cases (show v=Value.none from ry)),.(by intro Af s σ H x y v u Q I rx ry h),.(by simp only[qb7,qe5,or_false]at hf),∀{fp:?aD},a,∀{x:?m},a,∀{s:Shared},a,.function,Q ?aZ H',?I ?o,R.row j a e,w2.extBut,bZ ws f,Ed K H a xs,.(by simpa using e),backTo,Al _ n,?c y,?g ds,(?lM),fun _ _ _=>False,codeAny,V->?cH,Option,qc2 _ rfl,w3.extBut,R.free,eqDs a b,fun b hb=>?_,(x=?iC),Fb ws rows,"enumerate",qc6 ?_,(hr.mono hk),(?hX),?B4 a ?eK,?c j,IntsAre vs ns,?dF+f n,qa9 _,(?a3),?a6 H H1,qb7.mp,?c w,c.nocell,ds.any ?yD,"zip",oY h0,?dB vs us,?P ?d8,BZ ?cR H,below,x∈acc,oZ h0,Dc ws acc fs,ys[i]?=?eI,fam=0,[?S],LT K H ?bK xs,hf b hb,rZ.names.lookup,i<=xs.length,.(by simpa using hb),fun x H' y=>?_,Tx H H',s'.heap,∀{X:Cx}{sc:Scope}{N':?aL}{cap:?n (?eO Nat)},a,.(by show X.A.units+1+?b0<cLine;omega),∀(hd:?CO ?aS),a,.(by obtain⟨_,_,z,_⟩:=h';cases z),.(by obtain⟨a,vs,e,q,r⟩:=h),∀(hf:∀b∈fp,Qo X Af H b),a,.(by obtain⟨t,rfl⟩:=ry),∀(R:?BY H1 as),a,.(by have e':¬?b9:=O9m),∀{P:Program}{w:World},a,∀(p:?m),a,∀(ds:?F),a,∀(fs acc:Am),a,(dT h w f),n::ns,(?eG pos (?kE)).any,(?k it),Pv i zs τ H,?I h,env.cells,(h<=1000),?k p,∀x∈ns,x.natAbs<2 ^ Px,(?iG .Add),fun _ _=>False,(?vR),W.fnOf x ?d0 (I0 st) (Gg st) ?iA ?c3 kV doc pm an Ds ct,W.keepIn K ?oM=true,?c a,qa6 _ e,?nT b=?r,(?a1).map,ForInStep.yield,field,I.list_inj,?D h,True.intro,(?cQ hi).1,(fin r rv),X.base,hfresh,(w<=1000),cells.lookup,ZK K a b,?eO Int,(Y8 I (A:=X.A.in1) (by ext fW) hx rx r rv),(f:?dJ),callerA,g7 _ _ hc',bs[i]?,(?rL),?n α,?B4 b ys,Q ?aG H',?v6/\?C9 k,rv.get,qe8 _ _,h3.get?,Au t u D σ H,?D5 o,(n:Int),r.get,(?k i2),?B4 a us,(c.cells I.ok),Value.bool,?n Expr,?n L2.D,D.nx σ H,"isinstance",(.Tuple es x1 tpos),(?j1),Al g n,I.hok,VI n f,2 ^ m,(?k z),?BJ p [x,y],compareOp,w4.extBut,k.toNat,dep d,(xs.length:Int),{ cls:=?bC,data:=?aU ?mI },⟨_,rfl⟩,.(nomatch h),h2 f hf,(Av st),(?h2),?k l,k5.objs.size,hf b hb',?dN=0,binaryOp,(d:L2.D),Fq X sc N' ?nM s H fp,.ad i j n,.(by simpa using hx),(?rB),(?k i1),ns.length<=n,X.env.kindOf,n<=1000,?n (?tR),?f7 h,a.length=b.length,w5.extBut,sc.names,V7 X sc N' cap,?bP ?aF,[z,TI,TO,i1,i2],H l=none,(k:Int),Array ?dR,H l=?c ?qD,I.bare,⟨e,?_⟩,(Classical.propDecidable _),(x:V),xs.getD,.(by intro X hP hw hK hc i Af s σ H E I hf st hg;subst hP hw hK),.(by cases (?BC ?x);obtain⟨t',rfl⟩:=ry),.(by cases (?BZ z);obtain⟨t',rfl⟩:=ry),∀{prog:Program}{w:World}{A:Around}{E:?l4},a,.(by obtain⟨b,ws,rfl,q',r'⟩:=hy;cases ry),.(by intro Af s σ H x vs v us Q I rx rv h),.(by obtain⟨z,its,n,r,hl,e⟩:=I.lstM hH),.(by obtain⟨b,ws,z,q',r'⟩:=h';cases z),.(by (ext fY)),.(by obtain⟨its,_,p,_⟩:=?aW q),.(by obtain⟨its,_,p,_⟩:=?aC q),.(by obtain⟨⟨old,h1⟩,h2⟩:=st),.(by rcases ?f7 hb with rfl | hb),∀(mg:?c6)(base:Heap),a,∀(x7:A7) (x8:A8) (x9:A9) (Q6:JY),a,.(by rcases ?iR with e | e),.(by cases (?CR vs [])),∀(ps:?aL)(k:Nat)(sp:Sp),a,.(by have e:i=xs.length:=O9m),∀(cap:?n (?eO Nat)),a,∀(h0:p0) (h1:p1) (h2:p2),a,∀(x0:A0) (x1:A1) (x2:A2),a,∀{D:Addr}{as:?aD},a,∀{n i:Nat}{f:?z},a,∀(P:Program)(w:World),a,∀(hk:j<=k:=by decide),a,∀(c:?iV),a,∀{x1:Nat}{tpos:Pos},a,∀(f:?dJ),a,∀(a:?pO),a,∀(hc:?xL),a,∀(ws:Am)(fam:Int),a,∀(h:?sE),a,∀(x:?C),a,Reps.same,x∈ws,.same _,D->Bool,.(by rw[qc3];omega),?fP p.1,?CF ns,ws.findIdx,⟨n,?Q,?f4,h0⟩,?dX es ?h,(?AY ?xZ ys),.(by simp at h),b=true,H ?w=none,Addr->Prop,c.kind,?B4 a ?eZ,fun _=>none,if c then A else B,fun _ _ z=>z.elim,h'.IsTupleIter,m8 X.env.cells ?iU [],(?k j),(x,NameKind.free),qa0 hj,⟨h0,?_⟩,X.env.scope,∀f∈?a1,?dS,x∈?nU,(K w.params).In,Rep X.K H v e,h.IsListIter,fun _=>0,x.2≠NameKind.cell,H a≠none,?dR->?rY,d.name,(n,NameKind.cell),w.length-1,?BD us,Fj fam v,Ak (qc9 lb),(n,NameKind.free),imms ds,s₁.heap.get?,H c=?r,(?mQ)=true,fun c hc=>?_,fun f=>(?eD:Int),Rep X.K H x d,.ellipsis,sp vs H Q E,H b=none,?aJ ?H,i<xs.length,.(by ext oW),Nat.log2_lt,eqDs_refl,.(by decide),(0:Int),List.foldl,?d fam,ys.length<sizeLine,?nT c=?r,(xs:Am),(f,first),kk c o hc e,p.getD,k b o hc e,?D ?o,[a,b,c,d],K.lookup,eqD e d,x∈?fJ,Q (.bl ?aF) H',.(by simpa using hk),X.env.cells.lookup,as.length=h,w.drop,Kp H H1,if w∈ws then ws else ?mP,s.heap.IsTupleIter,?I hz,I1.list,.FunctionDef,vs.toArray,⟨a,b,c,rfl⟩,its.toArray.size*k.toNat,mainGlobals,.(nomatch hf),s.heap.objs.size<=C,if ?rX/\f ∉ acc then acc++[f] else acc,ws++[w],?BT k,?BG 1,xs.map tI,"dict",?BI n,Or.inr,A.units+1+?b0<cLine,s.heap.IsTuple,pb.isList,Ed K H p ys,N σ' H',relabel sc ?h,backToKw,(h w:Nat),(?eB).2.2,I.hok.fresh,?I hk,Gb k X.A,?dX ?aX ?h,holding [ov] (getMethod ov m pl),H4 D=?BD ys,(ns:?m),us.length=h,Heap.SameBut,⟨xs,q,?a4⟩,Builtin.SmallTypes.nextOf,Builtin.Int.intBits,?D5 e,⟨_,ho,rfl⟩,sc.names.all,fun i=>?yA,as.map V.ref,H2.objs.size,{ s with heap:=h' },standAt apos.atName,∃a b c,w=?cI,ys.length,?n8=(?b7,?nH)::?kE,.(by simp[h]),s.heap.get?,?CA acc l,(?rQ).symm,h'.get?,acc++its,h3.IsListIter,s₁.heap.Ns,Am->Am->Am,.(by simp[D9,eqDs]),?B4 p ys,p'.isList,_::_::_::?bN,Heap->Prop,pa.isList,?B7 e,.(by simpa using hv),d0::ds,?CH ds d,WData.weight,?lB∈sc.names,o.slots,?a6 H1 H2,N'.zip cap,kk b o (bS b hb).1 (bS b hb).2 z,I.lset,.(nomatch z),n=?bA\/n=?dM\/n="str"\/n=?d8\/n=?c7\/n=?mT,s.heap.objs.size+1,[e,it],(?k f),Dq ?qQ,s.free,Nj ws fam,?cJ::r,Rep.inj,.(by rcases Q7 h with⟨h0,⟨a,rfl⟩|⟨a,b,rfl⟩|⟨a,b,c,rfl⟩|⟨a,b,c,d,rfl⟩⟩|⟨h0,rfl|⟨a,rfl⟩|⟨a,b,c,rfl⟩⟩|⟨h0,rfl|⟨a,rfl⟩|⟨a,b,rfl⟩|⟨a,b,c,rfl⟩⟩),.(by refine ?e ⟨?qU,?cO,fun ys' τ' H' p'=>?xT,?fS⟩),.(by refine⟨fun i m ys τ H=>m=xs.length-i/\?fQ/\?aV,?tE,?_⟩),.(by have l1:=r.length;have l2:=r'.length;have l3:=rv.length;have l4:=UP.length),.(by unfold Ay;rw[?cG,?eA,?cG];rfl),.(by have hc:(i=0/\j=1)\/(i=0/\j=2)\/(i=1/\j=2):=?xU),.(by rcases hc with⟨rfl,rfl⟩|⟨rfl,rfl⟩|⟨rfl,rfl⟩),∀(hl:∀i ys τ H,?fQ->?aV->?aN),a,∀(h7:p7) (h8:p8) (h9:p9) (h10:UT) (h11:uT) (h12:US),a,.(by rcases hc with rfl | rfl | rfl | rfl | rfl),∀(hdb:?u3:=by decide),a,∀{t u:TS}{D:Ends}{σ:St}{H:Hp}(P:?cF),a,.(by cases rx;obtain⟨u,rfl,ru⟩:=rv.one),.(by by_cases hk:?lF),.(by simp only[qb7,qe5,or_false]at hc),∀(hu:?sN),a,.(by obtain⟨f,fd,h1,h2,h3⟩:=h.ex),.(by have z:b=it:=?fR),.(by obtain⟨o,es',ep,ho,r⟩:=hm),.(by obtain⟨v,r,rfl,h1,h2⟩:=h),.(by rcases hc' with rfl | hc'),∀{c A B:Prop}[Decidable c],a,∀(sc:Scope)(N':?aL),a,∀{Q:?l4},a,∀(ha:?vB),a,∀(hi:?u0),a,∀(h:?b2),a,∀(hn:l.most=?c n),a,∀{B:Addr}{H H1:Hp},a,X.N[i]?=?b3,h₁.get?,.(by ext zZ),?dQ B H H1,.(by ext zE),.bool_str c z t,?p K H' vs ds,us'.toArray[j],Result->?rY,(sizeLine:Nat),?i4<=?b0,Nat->?sI,typeIs_int,FF K xs H Q,.none_list ?G O9m,fun σ2 H2=>tb { D with nx:=?cO,ct:=?cO,bk:=D.nx } σ2 H2,(?n1).names.lookup x=?aE\/(?n1).names.lookup x=?cA,.int_str c t z t',fun j a e=>?_,k5.IsTupleIter,⟨_,tH,rfl,rfl,_,rfl⟩,?lD a=?c ?i6,P3 ws w fam,env.scope.kind==?e8,?uO h1 h2,A.units+?b0<cLine,.(by rw[qa2];exact hl),?N rfl z,(?g xs),g7 _ _ z,.(by rw[?C1 c q];exact q),H a=none,(! ?t (?H a=?H b))=true,⟨o,e,c⟩,base.Ns ?mL mg,hl i σ H hi pp,?CA [] l,wpAny_rule,FH x vs H Q,Gb k (A.deeper (envOfC ?d0 ?iA ?w f Ds)),(?wH t==Value.none)=true,ds.length,∀C s₀ H₀ fp,PE (?BK C) elt te,Bp X Af σ H s,H' p=?l8,⟨xs,xs[i],q,by simp[hlt]⟩,I.ok.bsz,Data.seq,k<=xs.length,a b _ (?CV h) e,fun m hm=>hl m (qd0 _ hm),s₁.gens=#[],(vs=[y]),env.kindOf n==?aE,⟨a,e,q⟩,Gb k ?h6,.(by ext jN;simp[Reps]),(vs=?fM),xs.drop k,fH x vs H Q,.list_bool b ?G O9m,qc9 (?dC),HR cap σ,∃c,env.cells.lookup n=?aY,Bp Y [] τ' H' s',⟨xs,ys,xs[i],ys[i],qa,qb,?a2,?a2⟩,hA b (by rw[q];simp),.str_int c t i t',q _ I.fresh,.(by simp at e),.str_str c t z t',N2 ws fam 4 [w] [],?AZ v ?g8,swapsWith,D.TOi1.symm,TH.extBut,.tuple_str z t' p O9m,qe1 this,(vs=[x]),(fam:Int),.(fun v q=>by ext A6),ih _ ?qZ,∀d∈ds,?sB,.bool_int c i t,f ∉ ws,Shared->Prop,.list_int i t' ?G O9m,?kS∈sc.names,hd ys τ H p,F.slot_int_rmul,?oR I hx' hy',Qh _ _ hv,w8.extBut,fun f hf=>?_,eqDs (D9 a) (D9 b),(?b7,?D5 b),.(by rw[?C1 b z];exact z),?d (j:Nat),EqD X H s d,I1.kept (t':=s1.toks) hk,⟨xs,ys,qa,qb,O9m⟩,JS fam ws,(?eB).2.1,c ∉ ?iX,.(by ext A8),Nat->?cF,Nat.min_eq_left,g.typeIs,congrArg,PZ K x lo hi H Q,∀σ' H',?xF->u D σ' H',ZipApart,.(by simp[eqDs]at h),c.locals,concat_meets,vV x y H Q,its.toArray.size,(dL n f),I7.pin (b,o) (qg1 _ (qg1 _ (Nz hb e))),Hu ?c8 f,.int_tuple c t p O9m,(?i1 .Eq),I1.hok.fresh,D.TOz.symm,cap.length=N'.length,sc.kind=?e8,fun y H4=>H4 D=?c (?g zs)/\zs.length<sizeLine/\Pv ?E ?vY τ2 (upd H4 D (?g ?vY)),∀x∈sc.names,?l2,fun i=>(?h8).getD ?aF,QA K xs H Q,Ei.mpr rfl,(qk8 lz),JT K xs H Q,∀C s₀ H₀ fp,PTs (?BK C) ifs tc,Nat->?uY,⟨_,hen⟩,?BD q,⟨?aS,?Q,?f4,h0⟩,eqDs_len,?BJ ?w [x,y],xs.length<=i,TI K H' v ns,CN ?qQ&&ds.all (fun e=>Do xs e (?oN-1))&&(?t (?oN<2) || Mj xs (ds.map uL)),q p _ (?wF hp) (.of Ab),⟨h1,?s6⟩,g x σ H' fun σ2 H2=>tb { D with nx:=N,ct:=N,bk:=D.nx } σ2 H2,VX K R vs H1,Or.inl rfl,?BI ys.length,∀C s₀ H₀ fp,PG (?BK C) tg g,Str × NameKind,.tuple_list p ?o3 O9m,QC K xs H Q,.(fun _ _ _ z=>by ext A0),.bool_tuple c p O9m,tn 0 ?bM,(Zk ?hN),∃t,jS (HM Eu P w K mg ?cD N ?d0 ?iA f Ds A outer s H E).nox (Gg st) t/\t { nx:=fun _ H'=>Q ?R H',rt:=Q } (start N vs) H,Rep K H' v d,i.natAbs<?hY,.Pass ⟨0,0,0,0⟩,List.range',(x==("__debug__":Str))=false,qB K x y H Q,w.length=0,qm3 ?_ (by size_fits),.(by rw[?C1 c e];exact e),{ s with heap:=h₁,toks:=s.toks+([]:?n (Str × Value)).length },fun τ2 H2=>te τ2 H2 ?xZ,H b=?r->H' b=?r,(UE lo n),if j=i then 1 else 0,jU x vs H Q,.(fun c o e hm=>by rw[(hf c hm).1]at e;cases e),wpAny_letGo,.int_int c t i t',TX ?kV X.N sc N' cap=true,(zL K a),?C9 (k+1),us.toArray[j],qe0.mp hi,RelV v u,(Td H Z),fitsIndex_both,Rep.same,(?cQ e).1,Builtin.List.listTooLong,Ed K H a ?eK,.(by rw[?C1 c' q];exact q),d.params.defaults=[],.(by have:=r.length;ext aP),(?dW-1) / 8,?CJ ?cI,?j->?cF,?lD b=?r,PE X l tl,?h1 x=?aY,∀b∈fp,?wP,Al (fun i=>f i j) n,vX K n neg x y H Q,?j6 i.toNat [],Nh K fd ps [],?a6 ?uN (Td H' Z),?aR o f pos',.of_refs hab main,.(by rw[hC];exact qn9 _),PA X ?aX t,(zM K a),?aN/\?hB,ws[k]?=?f8,.str_tuple c t p O9m,wpAny_comprehension_free,⟨h1,h2⟩,.tuple_none p O9m,.compLoop,.str_bool c t b,fun x a e=>?_,?CF p,w.length=1,∀(s:Shared) (u:Value),BindsTo s fd ⟨[u],[]⟩ [(x,u)],fun _ s'=>SP X Af D .next s',ds[j]' ?cZ,xs=[?gG],jW K x y H Q,?v (?dK prog w) A (?nF ?kR) Q E s,?t (a=b),?nT l=?c { cls:=?bC,data:=?aU ?L n },pre_splitW hpre,compPost,(zs++[y]),(n,(env.cells.lookup n).getD 0)::acc,Vis ?kV x,.list_str z t' ?G O9m,(a+b)%fam,?yF I r r',(?c ?iZ),Hu n ?l1,(?b7,?D5 a),Builtin.List.listFitsIndex,⟨f,h,?Q⟩,JU K n x vs H Q,hk c o n1 n3 n4 n5 e,?CJ f,(?hX).length,Obj.data_mapFields,qF K R vs H1,Same.new,.tuple_int i t' p O9m,Value.ref,fun w=>w==f,?B4 b (VI w ?cN),"list.index",fun o=>o.bind fun j=>?wT,4*l.length,hd σ H pp,⟨n-?E,O9m,rfl,hlt,p'⟩,?CE b,.list_tuple ?G p' O9m,?c (?aI),⟨main,?_⟩,(σ[j]?).join,.int_bool c t b,?BJ ?w [?x,x],.str_list c t ?G O9m,callWith,IrEqD K n x y H Q,qf2.mp hf,∀vs H Q E,?lK->vs.length=ps.length,x.2=NameKind.local->sc.names.lookup x.1=?c NameKind.local,?F->Bool,?n WData,?a6 H0 H,wpAny_updateSeq_pair,?t (0<=i),Y9 ds es hl,b≠e/\b≠it,.bool_list c ?G O9m,.int_list c t ?G O9m,qd0 _ hv,hb b hb',attributeBase,its.toArray[m],P σ' H',(?a1).length,fun p hp=>?N hp (by simp[Fq]),fun ys' τ' H' p'=>?wO,s.heap.push,pl.isList,X.calm=true,Td H Z a,mg ?l5=?c (?k fa),Fq X sc N' C s H fp,⟨o,ho,hd⟩,N2 ws fam n layer rows,.(by simpa using q7),.(by simpa using h),⟨xs.length-?E,O9m,rfl,hlt,p'⟩,.(by simp at hj;omega),n<=1000000,(?a8 k its).flatten,(?i1 .In),w.length=3,fun y H4=>?nA/\?lV/\Pv ?E ?dH τ2 (upd H4 D (?g ?dH)),PE X o ta,?n Keyword,?AN P,?d i s.toks,W i m σ H,l.row.toRowW,assignEach es ?h,xs[f.toNat]?=?c q,?BG 4,I.cell x a (ltc x a e),dL w ?cN,Ed K H' a xs,(?k ?iD),fun e=>?m5,wpAny_setField,Reps.inj,Nat->?o5,hf it ?o,W.codeIn K Ds ?d0=true,.none_tuple p O9m,w7.extBut,.tuple_bool b p O9m,D.TOi2.symm,.(show n+1+j=n+(j+1) by omega),.list_none ?G O9m,fun _ _ z=>no z,⟨_,ho2,rfl⟩,?B6 (?n8),Ey K x ?d0 st f fd,fG K xs H Q,⟨a,_,rfl,h,?t7⟩,.(by obtain⟨o,q1,q2,q3⟩:=id g;obtain⟨p,p1,_,m,p2⟩:=gt;unfold Builtin.SmallTypes.nextOf;refine qa7 (wpAny_callSpecial?_slot (name:=Str.ofString "__next__") ?sK qo4 (ql1 qo4 ?sK F.entry_tuple_iterator_next ?_ (F.args_tuple_iterator_next_1 _)));show ?AV (?gS ?kR 0>>=_) s;refine qa7 (qh3 q1 q3 (x:=?k t) rfl ?_);show ?AV (if ?qP then _ else _) s;rw[?I (show ¬(?qP) from qd6)];show ?AV (?gS ?kR 1>>=_) s;refine qa7 (qh3 q1 q3 (x:=?d n 0) rfl ?_);show ?AV (seqItems? (?k t)>>=_) s;refine qa7 (qm8 p1 p2 ?_)),∀(hs:?D1 ?kF),a,∀(hg:?tQ) (ht:?tA) (he:?qR),a,∀(hs:?D1 ?u9),a,.(by have I3:Bp X Af σ H' s':=I2.call' hos hun hok hbare (Bp.fpCh f2);have f3:Qo X Af H' C:=I2.fpOk hC hHC;obtain⟨_,k1,_,k3,k4,k5⟩:=f3),.(by have hc:(i=0/\j=1)\/(i=0/\j=2)\/(i=0/\j=3)\/(i=1/\j=2)\/(i=1/\j=3)\/(i=2/\j=3):=?xU),∀{x qual:Str}{st:Stmt}{f:Addr}{fd:FuncData}{N ps:?aL}{k:Nat}{sp:Sp}(F:?yS)(S:FnScope N ps ?iA),a,.(by rcases hc with⟨rfl,rfl⟩|⟨rfl,rfl⟩|⟨rfl,rfl⟩|⟨rfl,rfl⟩|⟨rfl,rfl⟩|⟨rfl,rfl⟩),.(by rintro i m ys τ H ⟨rfl,hi,p⟩;have q:=hl i ys τ H hi p;by_cases hlt:?lN),∀{pl:Sem Bool}(he:?y0)(c:Cls X.K C)(h:?C3 Kg)(hr:?n7),a,∀{q:Program}{loose:?aL}{XP:(?c6)->?o5}{YP:World->?o5}{d:DefRec},a,.(by simp only[qb7,qe5,or_false,not_or]at hc;obtain⟨n1,n2,n3,n4,n5⟩:=hc),∀(Ds:Value) (A:Around) (outer:?n Env) (s:Shared) (H:Hp) (vs:?j) (Q:VK) (E:XK),a,∀(h:∀{N:?cF},(∀σ' H',?xF->?n0)->t { D with nx:=N } σ H),a,.(by obtain⟨ia,ra,pa,_⟩:=?aC Wj;obtain⟨ib,rb,pb,_⟩:=?aC lI),∀(hc:?xL)(hcap:?uH)(hi:PI X tg iter wi),a,∀(hst:?nR:=by rfl),a,∀(he:?nR:=by rfl),a,.(by have hu':?mW:=by simp only[dep]at hu;omega),.(by show ?hO _=?hO _;rw[List.any_toArray,cT I r rv]),∀(hr:?n7)(hg:Gl X x)(hm:?cM x=?c (?k C))(ha:?vB),a,.(by obtain⟨e,y⟩:=y;subst e;exact hs i x ys τ _ (y xs q) p),.(by obtain⟨oc,od,kV,doc,pm,an,Ds,ct,osl,rfl,lk,hcd⟩:=F.ex),.(by refine ?tL;rcases ?i9 with z | z | z),.(by have hfresh:?kI:=?n5 (?a4)),∀(hl:∀i zs τ H,i<=n->?gC->?vD),a,∀(hs:∀x,foldedSetIterable iter ?h x=?O x:=by intro _;rfl),a,.(by obtain⟨it,fp,tn,J,H2,e,I2,T,st2,f2,hW⟩:=h2;subst e),.(by subst e;exact ?C2 ?nE ?s1),∀{tg elt iter:Expr}{ifs:?hP}{pos:Pos}{g:TG}{tc:TT}{te:TE},a,∀{CL CT:Addr}{H H':Hp}{Z:?kJ}{p L R dn:Addr}{h w B:Nat},a,∀{a b:Addr}{xs ys:?j}{n:Nat}(hn:n=min ?aS ?nQ),a,.(by rcases hs with⟨a,vs,rfl,hq,r⟩|⟨a,vs,rfl,hq,r⟩),.(by have e2:its'.toArray.size=es.length:=?a2),.(by have e1:its.toArray.size=ds.length:=?a2),.(by exact⟨f.2.2.2.1,f.2.1,f.2.2.2.2.1,f.2.2.2.2.2⟩),.(by have hx':=hx;obtain⟨a,vs,rfl,q,r⟩:=hx;cases rx),∀(hl:∀i ys τ H,?fQ->?aV->?eE),a,.(by simp only[qb7,qe5,or_false,or_self]at hf;subst hf),∀{x:Str}{ps:?aL}{j k:Nat}{sp:Sp}{p pos:Pos}{e:Expr},a,.(by unfold Ay;rw[?cG,?m2]),.(by obtain⟨p,ys,a,b,c⟩:=z;exact⟨p,ys,a,b,c⟩),.(by exact qd0 _ (ih (fun y hy=>hn y (qd0 _ hy)) h)),.(by simp only at hc hd hc2 hd2;subst hc hd hc2 hd2),.(by simp only[eqD];by_cases hl:ds.length=es.length),∀(g:?mE j t n)(gt:?mX t vs),a,∀{l:?iQ}{acc:?cB},a,.(by cases (show ?qW _ _=Data.cell v from q)),.(by obtain⟨hz,hTI,⟨u0,v0,hTO⟩,h1,h2⟩:=st),.(by rw[Ak (?CV h)];exact e),.(by cases ry;obtain⟨its,rv,p,_⟩:=?aW hq),.(by have hk':k=NameKind.free:=?m8),∀{n:Nat}{f g:?z}(h:∀i,i<n->f i=g i),a,∀{j k:Nat}{C:Addr}{ps:?aL}{sp:Sp},a,∀{vs:?j}{us:?B}{ds:?F},a,∀(Pv:?sI)(h0:Pv 0 σ H),a,∀{g:TG}{tb:TS}{D:Ends}{σ:St}{H:Hp},a,∀(hb:?v2),a,∀(hd:?CO n),a,∀(hd:∀zs τ H,Pv n zs τ H->Q H),a,∀{cells:?cB}{x:Str},a,∀{j t:Addr}{n:Nat}{vs:?j0},a,∀{mg:?c6}{base:Heap},a,∀{x qual:Str}{st:Stmt}{f:Addr},a,@(?eM (?dK ?a w) ?h6 (.call (?k fa) ⟨?fM,[]⟩) (fun r s'=>r=.ok (.ret ?dL)/\OldK ?cR ?fU/\s'.os=s₁.os/\AllBare s'.gens) ?dY),@(Sc ?a g ?b te D Q τ H),@(?a5 (?aR ?a m apos) ?b [] pos),@((sc.names.map fun ?cJ=>if (k==.free&&rZ.kind==?e8&&?fP n==?aE) then ?l6 else ?cJ).lookup p.1=?a),@((?a).go i H/\∃N:?cF,(∀σ' H',?n0->∃m',m'<m/\W ?E m' σ' H')/\∀x H',(?b).yld i H x H'->?tM),@(MW I (A:=A.in1) (by show ?mW;omega) r r' rv UP (eqDs_ok I ds) fun d h=>Wz ?a),@(qo5 ?a ?bB ?b k ?dG fin),@(by subst hK;exact ?a ?b),@(?v _ _ ?a _ _ ?b),@(show ?a b=_ from h'),@(X.env.scope.names.lookup ?a),@(fun τ2 H2=>tc τ2 H2 fun b H3=>if ?kH then te τ2 H3 ?a else Pv ?E ?b τ2 H3),@(Rep K H ?a ?b),@(?a (?aJ WData.int)),@(?lT (fun x1 x2=>x1++x2) #[] (?a8 ?a ?L)=(?a8 ?b its).flatten.toArray),@(Du (hi Af s σ H _ I ?a) fun v s1 h1=>Du h1 fun itv s2 h2=>?_),@(upd H ?a (?g ?b)),@(SqL K H ?a ?b),@(Q (.bl ?a) H),@(?wX pos f first (?eG pos ?a) (?n2 pos (keywordEach [] ?h))),@(Gp ?hN (fun z=>by simp at z) ?a),@(?a Pv h0 hl (fun i x ys τ H e p=>hs i x ys τ H e p) hd),@(?a->?b->Prop),@(?a q loose XP YP ?y5 d [] (fun f vs=>PySem.call f vs)),@(∀{us:?B}{vs:?j},?d3->?fD->EP X Af σ Q (?bP ?a) s),@(show y=?a from hy),@(?c (?g ?a)),@(∀c o,c≠z->c≠b->c≠i1->c≠i2->?lW->?a c=?r),@(?a5 (?aT ?a p) ?b [] pos),@(s1.heap.objs.size+?a),@(qa7 (qh3 gz rfl (x:=?a) rfl ?b)),@(?a<=sizeLine),@(upd H ?a (?u ?b)),@(Fq X sc N' ?a s₀ H₀ fp),@(qa7 (qm8 ?a rfl ?_)),@((ws.map tI).findIdx? (fun e=>eqD e (tI f))=?a (?b)),@(?a=s.heap.objs.size),@(∀i ys τ H,i<n->?aV->g (?d (lo+i)) τ H ?a),@(tn i ?a/\(∀b∈fp,H' b=none)/\W i ?b ys τ' H'),@(fun x y H Q=>?a),@(?p K H ?a ?b),@(?bO ?a z a b ?b),@(?a==NameKind.free),@(fun xs H Q=>?a),@((?a).length<=acc.length+?b),@(fun x vs H Q=>?a),@(?hG ?w=?c { cls:=?fE,data:=?aU #[?a,?b] }),@(?dD H ?a D ?b w f),@(show y=?M ?a from hy),@(fun acc C=>?vX ?c4 X.A X.xe ?a ?b acc C),@(Ak (S7 ?a _ ?b)),@(?i ⟨?a,?b⟩),@(?a ?bI X.w X.K ?cM ?gY C m ps j sp),@(fun σ H R=>ta σ H fun vs H1=>?a),@(?m4 f=?c ⟨oc,od,.func ?a,osl⟩),@(?lV/\N ?dH ?a (upd H4 D (?g ?dH))),@(by show(?a:Nat)<=sizeLine;decide),@(OpR X (?i1 .NotIn) (RI ?a n ?aF)),@(Bx P w K mg ?cD Eu ?a f fd ps sp),@(?fG ws fam ?a ?b),@(?e ⟨?a,?cO,fun σ' H' p'=>?b,?fS⟩),@(?c { cls:=?bC,data:=?aU #[] ?a }),@(?Y ?a=?c (?P ?b)),@(?a<s.heap.objs.size),@(TI K H v ?a),@(Sc J g tc te D ?a ?iL (upd ?b D ?bE)),@(?a[i]?=?c ?b),@(RcAt A s ?bK ?f5 (eqD (?a) (?b es))),@(Ay ?a fam),@(?nJ (fun x=>?t ?a)),@((∀p H',?C->Ed K H' p ?a->?e9)->?b),@((m8 cells l acc).lookup ?a=?aY),@((?j6 (?m0 ?a 0).toNat []).getD ?b 0),@(∀ys τ H,Pv ?a ys τ H->Q H),@(by subst hK;exact(?a).imp ?tU),@(show x=?a from hx),@(show ?a=?b from h),@(qp1 ?a (fun r s4 _z=>?_) ?kO),@(qa7 (qa7 (wpAny_onRaise ?a))),@(OpR X ?gI (?a ?b)),@(E6 e ?a (by intro z;cases z)),@(?Y ?a=?c (?a7 ?b)),@(?a ?bI X.w X.K ?cM ?gY ?b ps j sp),@(?a ?b8 ?b ?h4 ?gX),@((xs.length<sizeLine)->(Q ?R (?B3 l ?a))->?b),@(?p K (?B3 D (ys++[v])) (ys++[v]) ?a),@(∀i x ys τ H,?aK->?aV->g x τ H ?a),@(∀[?bW] (n:Nat),?b2->?BR (?a n) (?b n)),@(PE X (?AP o ?a) (IL C m sp [] E0 ta ?b)),@(?c (assign (?dV) ?a)),@(?aM ?a ?h),@(F0 X (?a7 ?a) ?b),@(∀p ys,?gK->((?o2\/?mZ))->?a->?b),@(?O (m8 ?gE ?a ?b))])
theorem AH{α:Type}:∀(l:?hA) (i:Nat),(l.eraseIdx i).length<=l.length
 | [],_=>?a4
 | ?bN,0=>qn9 _
 | _::r,i+1=>qi8 (AH r i)
theorem aP(its:?B):∀(k:Nat) (acc:?B),
 ?lT (fun x1 x2=>x1++x2) acc.toArray (?a8 k ?L)=(acc++?xW).toArray
 | 0,acc=>?Q
 | k+1,acc=>by
   have e:acc.toArray++its.toArray=(?nX).toArray:=?Q
   have e2:(?nX)++?xW=acc++(?a8 (k+1) its).flatten:=by
    rw[qj1,ql5,qs1]
   rw[←e2,←aP its k (?nX),←e,qj1,List.foldl_cons]
section
variable{X:Cx}[?b5]{l b:Addr}{xs ys zs:?j}
theorem Bp.lset{its its':?B}{n:Nat}{f:?j0->?j0}{t':Nat}[?A](hH:?j1)
 (e:?vV) (hf:f ?L=its'.toArray) (hv:?dB ys its') (hz:?tP) :
 Bp X Af σ (?B3 l ys) { s with heap:=s.heap.update l (Obj.mapSeq f),toks:=t' }:=by
 have q:=PySem.IsL.update e f;rw[hf]at q;refine I.write (x:=l) (e:=l) (by rw[hH];exact trivial) (?bG) (fun b' u hb hu=>(Heap.get?_update_other ?bM (Obj.mapSeq f) (Ne.symm hb)).trans hu) ⟨_,q⟩ ?_;exact⟨hz,its',_,hv,q⟩
theorem Bp.lnew{its:?B}{t':Nat}[?A](hv:?dB ys its)(hz:?tP) :
 Bp X Af σ (?B3 ?w ys) { s with heap:=?xJ { cls:=?bC,data:=?aU ?L },toks:=t' } :=
 I.laid (fun _ _ q=>qa6 _ q) (?a4) ⟨hz,its,0,hv,?eP⟩
theorem Bp.fresh[?A]:?kI:=?n5 (?a4)
theorem Bp.lstM[?A](hH:?j1):?BI xs.length/\∃(its:?B) (n:Nat),?dB xs its/\xs.length=its.length/\?vV:=by
 obtain⟨z,its,n,r,e⟩:=?hW l _ hH;exact⟨z,its,n,r,r.length,e⟩
theorem nW{n:Nat}(h:?mU):?uR n=false:=by
 unfold Builtin.List.listTooLong;exact qj4 O9m
universe e9
section
variable{X:Cx}
inductive FH(x:V)[?cX][?J]:Prop
 | mk:∀l xs y,?eU->?r1->?hU->?CZ (xs++[y]) ?qN
noncomputable def RJ:?eN:=?BW ?qN
theorem Ft:MtM X "list.append" RJ:=by
 ext jC;obtain⟨l,xs,y,rfl,rfl,hH,hz,q⟩:=h;ext p4;ext jD;refine ?d1 F.slot_list_append ?d7 F.entry_list_append (F.args_list_append_2 _ _) (PySem.list_append l ?L n u (?k9)) ?j3;refine⟨?R,_,?oH (its':=its++[u]) hH e ?o (r.append (?aH ru ?T)) ?_,rfl,q⟩;rw[qb1,qg8];omega
inductive jU(x:V)[?cX][?J]:Prop
 | mk:∀l xs i k y,?eU->(vs=[?x])->?hU->(-(?dW)<=i)->(i<?dW)->(seqIndex? i ?aS=?c k)->(xs[k]?=?eI)->(Q y (?B3 l (xs.eraseIdx k)))->?uD
noncomputable def wV:?eN:=?BW ?uD
theorem eF:MtM X "list.pop" wV:=by
 ext jC;obtain⟨l,xs,i,k,y,rfl,rfl,hH,h1,h2,hk,hy,q⟩:=h;ext p4;obtain⟨t,rfl⟩:=ru;ext jD;obtain⟨w,hw,rw'⟩:=?hK hy
 refine ?d1 F.slot_list_pop ?d7 F.entry_list_pop (F.args_list_pop_2 _ _)
  (MeetsSeq.list_pop_at l ?L n i t k w (?q9) (by rw[qc3,←hl];exact hk) (by rw[←Array.getElem?_toList];exact hw) (?k9)) ?j3
 refine⟨y,_,?oH (its':=its.eraseIdx k) hH e ?_ (r.eraseIdx k) ?_,rw',q⟩
 . show its.toArray.eraseIdxIfInBounds k=(its.eraseIdx k).toArray;rw[List.eraseIdxIfInBounds_toArray]
 . have:=AH xs k;omega
inductive vV(x:V)(y:V)[?J]:Prop
 | mk:∀l k xs,?eU->(y=?d k)->?hU->(-(?dW)<=k)->(k<?dW)->(xs.length*k.toNat<=sizeLine)->(∀p,?X->Q ?aZ (upd H p (?g (?a8 ?i3 xs).flatten)))->?sS
noncomputable def A06:R2:=?BQ ?sS
theorem SW{α:Type}(xs:?hA)(k:Nat):(?a8 k xs).flatten.length=k*xs.length:=by
 induction k with
 | zero=>simp
 | succ k ih=>rw[qj1,ql5,qb1,ih,Nat.succ_mul,qw5]
theorem NQ:OpR X (?iG .Mult) A06:=by
 ext e3;obtain⟨l,k,xs,rfl,rfl,hH,h1,h2,hz,q⟩:=h;cases rx;ext g1;ext jD;have hlen:?BI ?mK:=by rw[qc3,←hl];exact hz
 have hcap:¬?mK > ?uW:=by
  have:?pU<=?uW:=?lR
  omega
 have hfit:¬(! ?w7 k)=true:=by
  rw[?q9];exact qd6
 have Al3:¬?uR (?mK)=true:=by
  rw[nW hlen];exact qd6
 have hnew:?B1 (if its.toArray.isEmpty=true then 0 else k.toNat) ?i3:=by
  have f0:∀m:Nat,?B1 m m:=fun m=>by
   have:=aP its m [];rw[qo7]at this;exact this
  rw[f0];cases its with
  | nil=>simp
  | cons a r'=>rw[?eA]
 refine wpAny_binaryOp_repeat_ref (T:=?c7) (U:=?bA) ?c1 ?d7 (fun s'=>?pX s' k t) noFill_list_mul F.fills_int_mul ?s2 repeat_list F.slot_int_index.lookup
  (?d1 ?s2 (?pX s k t) F.entry_int_rmul (F.args_int_rmul_2 _ _) (int___rmul___int_list k t l ?L n)
    ⟨e,rfl,?d7,?d1 F.slot_list_mul ?d7 F.entry_list_mul (F.args_list_mul_2 _ _) (AutoListH.list___mul___list_int_3 l ?L n k t hfit hcap Al3) ?j3⟩)
 rw[hnew];exact⟨?k _,_,I.lnew (t':=s.toks) (r.rep ?i3) (by rw[SW,Nat.mul_comm];exact hz),rfl,?rH⟩
universe e9
section
variable[?jA][?e7]
universe e9
section
variable{X:Cx}
universe e9
universe L2
namespace Att
open PySem PySem.W PySem.Calls PyProof.Rows
theorem Wi{P:Params}{h:Heap}:∀[?bZ] (vs:?B),WellAll P h vs (?aJ WData.int)->?f2:=by
 intro ns
 induction ns with
 | nil =>
   intro vs w;rw[qt9]at w;cases w;exact ?T
 | cons n ns ih =>
   intro vs w;rw[qd5]at w;cases w with
   | cons a b =>
     cases a;exact ?aH _ _ (ih _ b)
theorem script_of{l:OpenLaw}{n:Nat}[?pJ]{P:Params}{h:Heap}{args:?x3}{vals:?B}
 (hpre:l.row.toRowW.claim.pre args=true) (hwl:WellAll P h vals args) :
 ∃a vs ns,vals=[?wH a]/\args=[?B0 WData.list]/\h.get? a=?c ?i6/\?f2/\?iN:=by
 have hsh:WShape.hasAll [] args [.list ?d]=true:=(?vW).1;have hc:l.pre.holds [] { args:=args }=true:=(?vW).2;obtain⟨d,r,rfl,h1,h2⟩:=hasAllW_cons hsh;obtain rfl:=hasAllW_nil h2;obtain⟨xs,rfl,h3⟩:=hasW_list h1;obtain⟨ns,rfl⟩:=items_int h3
 have hlen:?iN:=by
  unfold OpenLaw.pre at hc
  have h4:(WTm.not (.lt (.lit (?d ?hJ)) (.len (.arg 0)))).holds [] { args:=[.list (?aJ ?d)] }=true:=by
   have h4:=(holds_andW hc).1;rw[hn]at h4;exact h4
  have h5:=condW_of h4 (w_not (w_lt w_lit (w_len_list (w_arg rfl))));rw[qa2]at h5;refine qh1 fun q=>?_;have q':?hJ<((ns.length:Nat):Int):=O9m
  first
   | (rw[qg4 q']at h5;exact ?N h5 ?c1)
   | (simp at h5;omega)
 cases hwl with
 | cons w1 w2 =>
   cases w2;cases w1 with
   | list ho hall=>exact⟨_,_,ns,rfl,rfl,ho,Wi ns _ hall,hlen⟩
theorem post_true(l:OpenLaw)(args:?x3):l.row.toRowW.claim.post args ?dL args=true :=
 postW_of (r:=l.row.toRowW) (X:=(true==true))
  (show WShape.has [] ?dL ?bP=true by first | rfl | decide | simp[WShape.has,WShape.arms,WShape.armsAll])
  (show(WTm.eq .res (.lit ?dL)).value [] { args:=args,res:=?c ?dL,after:=args }=?c (?bP (true==true)) from w_eq_bool (w_res rfl) w_lit) rfl
section
variable[?jA][?e7]{K:Frag}
universe e9
universe Att
namespace L2
open PySem PySem.Spec PyProof.Rows
theorem y3:∀{vs:?B}[?b6],?f2->?dB ?eK vs
 | _,_,?T=>?T
 | _,_,?aH n t h=>?aH ⟨t,rfl⟩ (y3 h)
noncomputable def zJ(H:Hp):Prop:=∀b,?lL\/∃o xs,H b=?c (.frz o ?qD)
theorem OM[?g4][?l]{mg mb:?c6}{CX:qH}{k:Nat}{fa a:Addr}{fd:FuncData}{x:Str}{sp:Sp}{s₁:Shared}{vs:?B}[?b6]
 (KX:K.In ?cR) (hns:?nZ ?mL mg) (hb:?nZ builtinsNs mb) (hbb:∀x:Str,x≠"__name__"->mb x=?Y x) (hlim:s₁.heap.NoLimit) (hg:?r0)
 (ha:?q6) (hi:?f2) (hl:?BI ns.length) (hr:?r4)
 (F:∀base:Heap,K.In ?cD->?qJ->Bx P w K mg ?cD CX k fa fd [x] sp) (hbind:?vO)
 (JE:∀H:Hp,zJ H->?f0->sp ?fM H (fun v _=>v=.bl ?aF) ?eL)
 (hCX:∀H e s',CX [] H ?dY (?eL) e s'->False) :
 ?y2:=by
 have rv:=y3 hi;have A33:=hi.length
 have core:∀H:Hp,zJ H->?f0->Q2 P w H ?cR->(∀b,H b≠none->b=a)->(?l3->?m4 a=none) →
  ?y2:=by
  intro H hO hS hok hA hK;have JP:∀{b:Addr}{o:Obj},?uZ->?lL->(?fF).get? b=?r:=fun e n=>OT e n
  have noA:∀{b:Addr}{o:Obj}{es:Array DictEntry}{ep:Nat},?uZ->o.data=.dict es ep->?lL:=fun {b o es ep} e d=>by
   cases q:H b with
   | none=>rfl
   | some u =>
     have e':b=a:=?rF;subst e';rw[ha]at e;cases e;have d':?qW ?mI _=Data.dict es ep:=d;cases d'
  have nsK:∀{b:Addr}{m:?c6},?nZ b m->(?fF).Ns b m:=fun {b m} ⟨o,es,ep,e,d,r⟩=>⟨o,es,ep,JP e (noA e d),d,r⟩
  have hKb:K.In (?fF):=fun b o e=>JP (KX b o e) (by
   cases q:H b with
   | none=>rfl
   | some u =>
     have e':b=a:=?rF;subst e';rw[hK (by rw[q];simp)]at e;cases e)
  have hM:Mod K mg (?fF):=⟨hKb,nsK hns,⟨mb,nsK hb,hbb⟩,let ⟨mc,h1,h2⟩:=hlim;⟨mc,nsK h1,h2⟩⟩
  have e0:iE P w K mg (?fF) ?h6 [] ?dY H:=⟨rfl,hM,fun b o e=>sI e,ql9 (lJ _ _),trivial,fun b hb=>?N (show b∈([]:?aD) from hb) ?o,hok,.of_eq hg⟩
  refine codeAny_mono ((F _ hKb (nsK hns)).run callerA [] s₁ H ⟨[.ref a],[]⟩ [.ref a] [.ref a] _ _ hr e0 (hbind s₁ (.ref a)) (.cons rfl .nil) (JE H hO hS)) fun r s' h=>?_;cases r with
  | error e=>exact(hCX H e s' h).elim
  | ok fl =>
    cases fl with
    | next=>exact False.elim h
    | brk=>exact False.elim h
    | cont=>exact False.elim h
    | ret u =>
      obtain⟨v,H',os,bare,un,A65,r',q⟩:=h;have q':v=.bl true:=q;subst q';obtain rfl:u=Value.bool true:=r';refine⟨rfl,OldK.of_keep fun b o e=>?_,os,bare⟩;cases q:H b with
      | none=>exact un.keep b o e q (by intro z;exact ?N (show b∈([]:?aD) from z) ?o) ?o
      | some u =>
        rcases hO b with z|⟨ob,xs,z⟩
        . rw[q]at z;cases z
        . have z2:=un.frzs b ob _ z;obtain⟨e1,_⟩:=hok b _ z;obtain⟨e2,_⟩:=A65 b _ z2;rw[e]at e1;cases e1;exact e2
 cases hk:K.lookup a with
 | some o =>
   have e:=KX a o hk;rw[ha]at e;cases e;refine core (?kM) (fun _=>?bG) (?e ⟨_,?mI,_,hk,rfl,rfl,rfl,by rw[qc3,A33];exact hl,by simpa using rv⟩) (fun b u z=>by have z':(none:?eO HO)=?c u:=z;cases z') (fun b z=>?qC) fun z=>?qC
 | none =>
   refine core (fun b=>if b=a then ?c (.frz ?i6 (?g ?eK)) else none) (fun b=>?_) (?i (?e ⟨?i6,?D rfl⟩)) (fun b u z=>?_) (fun b z=>?_) fun _=>hk
   . by_cases hb:b=a
     . exact ?e ⟨_,_,?D hb⟩
     . exact ?i (?I hb)
   . by_cases hb:b=a
     . have z':=(?D hb).symm.trans z;cases z';subst hb;exact⟨ha,?qB,vs,_,rv,ha⟩
     . have z':=(?I hb).symm.trans z;cases z'
   . by_cases hb:b=a
     . exact hb
     . exact ?N (?I hb) z
noncomputable def Ex(s:Stmt)(j:Nat):Stmt:=match s with
 | .ClassDef _ _ _ body _ _ _ _ _ _ _=>body.getD j (?u1)
 | _=>?u1
noncomputable def I0(s:Stmt):Arguments:=match s with
 | ?mH _ a _ _ _ _ _ _ _ _=>a
 | _=>{ posonlyargs:=[],args:=[],vararg:=none,kwonlyargs:=[],kw_defaults:=[],kwarg:=none,defaults:=[] }
noncomputable def Gg(s:Stmt):?n Stmt:=match s with
 | ?mH _ _ b _ _ _ _ _ _ _=>b
 | _=>[]
noncomputable def Av(s:Stmt):Scope:=match s with
 | ?mH _ _ _ _ _ _ sc _ _ _=>sc
 | _=>{ kind:=?e8,names:=[],isGenerator:=false,isCoroutine:=false }
noncomputable abbrev Eu:qH:=fun _ _ _ _ _ _=>False
noncomputable abbrev E0:XK:=?eL
theorem DS{X:Cx}:Sd Eu X E0:=fun _ _ _ _ _ _ _ h=>h.elim
structure Ey[?f](x qual:Str)(st:Stmt)(f:Addr)(fd:FuncData):Prop where
 ex:∃(oc:Value) (od:OAddr) (kV doc pm:Value) (an:OAddr) (Ds ct:Value) (osl:Q5),
  fd=?gL/\?C5 fd/\?yI
 kp:?gM
section
variable[?g4][?l][?AL]
theorem Ey.ok[?z1](len:?x0)
 (hbody:∀[?z7],?qO->?lK →
   ?tY):?uJ:=by
 ext zH;refine An7 lk hcd S len fun A outer s H vs Q E hr JE=>?_;obtain⟨t,h,q⟩:=hbody Ds A outer s H vs Q E hr JE;exact⟨t,h.nox,q⟩
theorem Ey.okZ[?z1]
 (hbody:∀[?z7],?qO->?lK →
   ?tY) (len:?x0:=by intro vs H Q E h;(repeat (cases h;rename_i h));all_goals (subst_vars;rfl)):?uJ:=F.ok S len hbody
theorem Ey.binds[?AM]{fd:FuncData}{ps:?aL}(F:?yS)
 (h:∀(kV doc pm:Value) (an:OAddr) (Ds ct:Value) (us:?B),us.length=ps.length->bindArgs (?gL) ⟨us,[]⟩=?O (ps.zip us)):?v6:=by
 ext zH;exact .all (h kV doc pm an Ds ct)
theorem cD[?AM]{oc:Value}{od an:OAddr}{osl:Q5}{kV doc pm Ds ct:Value}(l:?C5 (?gL))
 (c:?yI) (k:?gM):Ey K x ?d0 st f (?gL):=⟨⟨oc,od,kV,doc,pm,an,Ds,ct,osl,rfl,l,c⟩,k⟩
universe e9
section
variable{X:Cx}
theorem pv(i:Nat){x:Str}{pos:Pos}(hN:?pL:=by rfl)(hv:?w0:=by first | exact ?tO | exact ?mV (?tO) | exact ?mV (?mV rfl))(hd:?u3:=by decide)
 (hcd:(x==("__classdict__":Str))=false:=by decide):PE X (?aT x pos) (Ad4 i):=XA hN hv hd hcd
universe e9
theorem ite2[?pD](h1:c->A)(h2:¬c->B):?kN:=by
 by_cases h:c
 . rw[?gU];exact h1 h
 . rw[?gD];exact h2 h
noncomputable def Same(H H':Hp):Prop:=∀b o,?uA
theorem Same.refl(H:Hp):?a6 H H:=fun _ _ h=>h
theorem Same.trans{H H1 H2:Hp}(a:?f6)(b:?oE):?a6 H H2:=fun c o h=>b c o (a c o h)
theorem Same.free{H H':Hp}(e:?C){l:Addr}(h:H' l=Option.none):H l=Option.none:=by
 cases q:H l with
 | none=>rfl
 | some o =>
   rw[e l o q]at h;cases h
theorem Same.seq[?l]{H H':Hp}[?cV](e:?C)(h:?aN):SqL K H' a xs:=by
 rcases h with(h|⟨o,h⟩) | h
 . exact ?i (?i (e _ _ h))
 . exact ?i (?e ⟨o,e _ _ h⟩)
 . exact ?e h
noncomputable def m8(cells:?cB):?iQ->?cB->?cB
 | [],acc=>acc
 | ?oQ,acc=>m8 cells r (if ?lF then(n,(?h1 n).getD 0)::acc else acc)
theorem Zk{sc:Scope}{env:Env}(h:∀n,?oC->?rC):closureFor sc env=?D8 ?iU []:=by
 have all:∀(l:?iQ) (acc:?cB),(∀n,?lB∈l->?rC) →
  (forIn l acc fun(x:?tR) (cs:?cB)=>match x with
    | (?d9,kind)=>if (?BT kind)=true then(do let c ←cellOf env ?d9;?O (?gR ((?d9,c)::cs))) else ?O (?gR cs))=(?D8 l acc:Sem _):=by
  intro l
  induction l with
  | nil=>intro acc _;rfl
  | cons x r ih =>
    intro acc hl;obtain⟨n,k⟩:=x;rw[List.forIn_cons];ext p5
    . ext AA
      subst hk';obtain⟨c,hc⟩:=hl n qe3;have e1:cellOf env n=?O c:=by unfold cellOf;rw[hc]
      simp only[beq_self_eq_true,if_true,e1,pure_bind];rw[?rU];show _=(?D8 r (if (?BT NameKind.free)=true then ?vZ else acc):Sem _)
      rw[?m2,hc];rfl
    . have hk2:(?mQ)=false:=?m8
      simp only[hk2,qr2,if_false,pure_bind];rw[?rU];show _=(?D8 r (if ?lF then ?vZ else acc):Sem _)
      rw[?n6]
 have:=all ?iU [] h;unfold closureFor;dsimp only;rw[this,pure_bind]
theorem Gp[?AJ]{c:Addr}:∀[?A5],(∀n,?lB∈l->∃c,?h1 n=?aY) →
 (acc.lookup x=?aY->?v1)->?CM x->?v1
 | [],_,_,ha,h=>ha h
 | ?oQ,acc,hl,ha,h=>by
   refine Gp (l:=r) (?qZ) ?_ h;ext p5
   . rw[?D hk];ext AA
     subst hk';obtain⟨d,hd⟩:=hl n qe3;intro e;rw[qp9]at e;cases hx:x==n with
     | true =>
       rw[hx]at e;have hxn:x=n:=?iK
       subst hxn;rw[hd]at e ⊢;exact e
     | false=>rw[hx]at e;exact ha e
   . rw[?n6];exact ha
theorem Zl[?AJ]:∀[?A5],(?kS∈l\/∃c,acc.lookup x=?aY)->∃c,?CM x
 | [],_,h=>by
   rcases h with h | h
   . exact ?i8
   . exact h
 | ?oQ,acc,h=>by
   refine Zl (l:=r) ?_;ext p5
   . rw[?D hk];by_cases hx:(x==n)=true
     . exact ?e ⟨(?h1 n).getD 0,by rw[qp9,hx]⟩
     . have hx2:(x==n)=false:=?iK
       rcases h with h|⟨c,h⟩
       . ext jM
         . have e1:x=n:=?sL Prod.fst e;exact ?N (by simp[e1]) hx
         . exact ?i e
       . exact ?e ⟨c,by rw[qp9,hx2];exact h⟩
   . rw[?n6];rcases h with h | h
     . ext jM
       . have e2:NameKind.free=k:=?sL Prod.snd e;exact ?N (by simp[←e2]) hk
       . exact ?i e
     . exact ?e h
noncomputable def Fq(X:Cx)[?pE](C:Addr)(s₀:Shared)(H₀:Hp)(fp:?aD):Cx where
 prog:=X.prog
 w:=X.w
 K:=X.K
 mg:=X.mg
 base:=X.base
 A:=X.A
 N:=N'
 s₀:=s₀
 H₀:=H₀
 env:=compEnvC sc (?kQ) C ?h
 outer:=X.stack
 stack:=X.stack
 ex:=fp
 fn:=fun _=>false
 calm:=X.calm
 pn:=[]
 xe:=?gJ
noncomputable def HR[?jQ](σ:St):St:=cap.map ?wL
structure V7(X:Cx)[?pE][?jQ]:Prop where
 kind:?t2
 len:?t1
 nocell:?t4
 locals:∀x∈sc.names,?x1
 free:∀n,?oC->?iO n=?aE\/?iO n=?cA
 slots:∀(i j:Nat) (x:Str),N'[i]?=?b3->?CH cap (?f1)->X.N[j]?=?b3/\(?q1)/\?w0
section
variable[?fV][?b5]{C:Addr}[?e5]
theorem V7.cells[?jX](ok:X.Ok):∀n,?oC->∃c,?m9 n=?aY:=fun n hn=>ok.has n (c.free n hn)
theorem Lk{env:Env}{x:Str}{k:NameKind}(hnc:?t4)(h:(relabel sc env).names.lookup x=?c k)(hk:k=.cell\/k=.free):?s0:=by
 have all:∀(l:?iQ),(∀x∈l,?l2)->(l.map fun ?cJ=>if (?mQ&&?q8&&?r2) then ?l6 else ?cJ).lookup x=?c k->?kS∈l:=by
  intro l
  induction l with
  | nil=>intro _ h;exact ?i8
  | cons p r ih =>
    intro hn h;obtain⟨n,q⟩:=p;rw[qd5,qp9]at h;by_cases hc:(?BT q&&?q8&&?r2)=true
    . have hq:q=NameKind.free:=by
       have:=hc;simp only[qc8]at this;simpa using this.1.1
      simp only[hc,if_true]at h;cases hx:x==n with
      | true =>
        have e:x=n:=?iK
        rw[e,hq];exact qe3
      | false =>
        rw[hx]at h;ext A1
    . simp only[hc]at h;cases hx:x==n with
      | true =>
        have e:x=n:=?iK
        simp only[qr2,if_false,hx]at h;have e2:q=k:=?xS
        rcases hk with z | z
        . exact ?N (e2.trans z) (hn (n,q) qe3)
        . rw[e,←z,←e2];exact qe3
      | false =>
        simp only[qr2,if_false,hx]at h;ext A1
 exact all ?iU hnc h
theorem TV[?jX][?A](hC:?mN)[?g0][?AG]:(?xO).Ok where
 mod:=I.ok.mod
 kind:=c.kind
 glob:=I.ok.glob
 blt:=I.ok.blt
 above:=hC
 inj:=fun x y a hx hy=>I.ok.inj x y a (?B7 hx) (?B7 hy)
 has:=fun x hx=>by
  refine Zl (?i ?_);rcases hx with hx | hx
  . exact Lk ?f9 hx (?bG)
  . exact Lk ?f9 hx (?e rfl)
 cab:=fun _ _ h=>?i8
 hd:=I.ok.hd
 frames:=I.ok.frames
 stk:=?bG
 exf:=fun b hb'=>⟨qc9 (qb4 (?xC) hC),fun x a e=>(?iE).2.2.2.2.1 x a (?o7)⟩
 bs:=I.bs
 bsz:=qa5 ?qV I.sz
 noex:=fun b o e hb'=>by
  rcases (?iE).2.2.2.1 with z | z
  . exact I.ok.noex b o e z
  . exact ?N (qb4 (?dC) (qa5 ?qV z)) (qo6 _)
 exfs:=fun b hb' z=>by
  obtain⟨_,f1,f2,_⟩:=?iE;rcases ?f7 (I.stkSub b z) with e | e
  . exact f1 e
  . exact f2 e
 funs:=I.stack
 frf:=I.stkFree
theorem PN[?jX][?A]{D:Addr}{h1:Heap}{t:Nat}(hC:C=?oK)(hD:?BN D)[?g0][?AG]
 (hn:h1.Ns C ?kM) (hl:h1.get? D=?CC 0) (k:∀b o,?gP->h1.get? b=?r) :
 Bp (?xO) [] ?iL (upd H D ?bE) { s with heap:=h1,toks:=t }:=by
 have hCs:?mN:=?vA
 have hCD:C≠D:=by rw[hC,hD];exact qt0 _
 have ok:=TV (C:=C) (fp:=fp) c I hCs hf hb;have hDn:?e0:=by rw[hD];exact I.fresh
 have ltc:∀x a,(?kQ).lookup x=?gN->?m9 x=?gN:=fun x a e=>?o7;have cel:∀a v,s.heap.IsCell a v->h1.IsCell a v:=fun a v ?xP=>⟨o,k a o ho,hd⟩
 have ltD:∀a v,s.heap.IsCell a v->a≠D:=fun a v ?xP=>by rw[hD];exact qc9 (qb3 ho)
 refine⟨ok,rfl,?j2,Un.laid k (by rw[hD];exact ?a4) hDn,⟨_,hn,fun i x v e1 e2 e3=>?_⟩,?vL,?_,?vL,?xH,?_,?_⟩
 . have e2':cap[i]?.map (?wL)=?wR:=by
    have:=e2;unfold HR at this;rw[qa8]at this;exact this
   cases hc:cap[i]? with
   | none=>rw[hc]at e2';cases e2'
   | some o =>
     rw[hc]at e2';cases o with
     | none=>cases e2'
     | some j =>
       have e4:?wT=?aI:=by simpa using e2'
       obtain⟨q1,q2',q3⟩:=c.slots i j x e1 hc;have q2:?s0:=q2'.elim (fun z=>Lk ?f9 z (?bG)) fun z=>Lk ?f9 z (?e rfl);obtain⟨m,hm,hl'⟩:=I.loc
       have e5:σ[j]?=?wR:=by
        cases z:σ[j]? with
        | none=>rw[z]at e4;cases e4
        | some y=>rw[z]at e4;cases y with
          | none=>cases e4
          | some y'=>cases e4;rfl
       obtain⟨u,r,l⟩:=hl' j x v q1 e5 q3;refine⟨u,r,?_⟩;obtain⟨a,ha⟩:=Zl (cells:=X.env.cells) (l:=sc.names) (acc:=[]) (x:=x) (?i q2);have kd:?iO x=?aE\/?iO x=?cA:=c.free x q2;rcases l with⟨hk,_⟩|⟨hk,a',ha',hcell⟩
       . rcases kd with z | z<;>rw[z]at hk<;>cases hk
       . have e6:a'=a:=by
          have:=ltc x a ha;rw[ha']at this;exact ?rQ
         refine ?e ⟨q2',a,ha,?_⟩;rw[←e6];exact cel _ _ hcell
 . obtain⟨v,z⟩:=?y9;exact⟨v,cel a v z⟩
 . show upd H D ?bE C=none;rw[Ak hCD];exact ?n5 hCs
 . show upd H D ?bE a=none;obtain⟨v,z⟩:=?y9;rw[Ak (ltD a v z)];exact I.freeC x a (ltc x a e)
 . exact I.hok.laid k (by rw[hD];exact ?a4) ⟨?f4,[],0,?T,hl⟩
 . show(?rB).length=N'.length;unfold HR;rw[qa2,c.len]
universe e9
noncomputable def TX(rZ:Scope)(N:?aL)[?pE][?jQ]:Bool :=
 ?t (?t2)&&?t (?t1)&&?CK (?l2)&&?CK (?x1) &&
 ?CK (x.2=NameKind.free->(?fP x.1=?aE\/?fP x.1=?cA)) &&
 (?oF).all (fun p=>match p.2 with
   | none=>true
   | ?f1=>?t (N[j]?=?c p.1)&&?t ((?AQ ?aE) ∨
      (?AQ ?cA)) &&
     ?t (?kA=?c .local\/?kA=?aE\/?kA=?cA))
theorem JM[?fV](h:?uH):?iV:=by
 unfold TX at h;rw[qc8,qc8,qc8,qc8,qc8,qe9,qe9,qe9,qe9]at h;obtain⟨⟨⟨⟨⟨h1,h2⟩,h3⟩,h4⟩,h5⟩,h6⟩:=h;refine⟨qd7 h1,qd7 h2,fun x hx=>qd7 (h3 x hx),fun x hx=>qd7 (h4 x hx),fun n hn=>qd7 (h5 _ hn) rfl,fun i j x e1 e2=>?_⟩
 have hm:(x,?f1)∈?oF:=by
  have e:?CH (?oF) (x,?f1):=by
   rw[List.getElem?_zip_eq_some];exact⟨e1,e2⟩
  exact qb6 e
 have h7:=h6 _ hm;dsimp only at h7;rw[qc8,qc8]at h7;obtain⟨⟨h8,h9⟩,h10⟩:=h7;exact⟨qd7 h8,qd7 (p:=?q1) h9,qd7 (p:=?AX x=?c .local\/?AX x=?aE\/?AX x=?cA) h10⟩
noncomputable def PTs(X:Cx)(ifs:?hP)(t:TT):Prop :=
 ∀(Af:Bl) (s:Shared) (σ:St) (H:Hp) (Q:Bool->?a9),?qS->t σ H Q →
   ?v ?c4 X.A (forIn ifs ?aF fun c r=>if r=true then do let ok ←isTrue c ?h (?D5 c);?O (?gR ok) else ?O (?gR r)) (TP X Af σ Q) X.xe s
noncomputable def KH:TT:=fun _ H Q=>Q ?aF H
theorem Ca{X:Cx}:PTs X [] KH:=fun _ _ _ H _ I h=>wpAny_tests_nil ⟨H,I,h⟩
theorem Kb{X:Cx}{c:Expr}{t:TT}(h:PT X c t):PTs X [c] t:=fun Af s σ H Q I hw=>wpAny_tests_one (h Af s σ H Q I hw)
noncomputable def Sc(J:It)(g:TG)(tc:TT)(te:TE)(D:Addr)(Q:?a9)(τ:St)(H:Hp):Prop :=
 ∃W:Nat->?tB,(∃m,W 0 m [] τ H)/\∀i m ys τ H,W i m ys τ H →
   (J.stop i H/\Q H) ∨
   (J.go i H/\∃N:?uY,(∀ys' τ' H',N ys' τ' H'->∃m',m'<m/\W ?E m' ys' τ' H') ∧
     ∀x H',J.yld i H x H'->g x τ H' fun τ2 H2=>tc τ2 H2 fun b H3=>if ?kH then te τ2 H3 fun y H4=>?nA/\?C6 τ2 else N ys τ2 H3)
section
variable[?fV][?zO]
theorem lZ{Y:Cx}{J:It}[?e5]{it D:Addr}{tn:?yG}{R:?pT}{Q:?a9}{τ:St}{H:Hp}[?e7]
 (hx:Y.xe=?gJ) (hc:Y.calm=true) (hg:PG Y tg g) (ht:PTs Y ifs tc) (he:PE Y elt te) (T:Wp Y.prog Y.w Y.K tg J fp it tn) (st:?tW) (hf:∀b∈fp,Qo Y [] H b) (I:Bp Y [] τ H s)
 (h:?AO J tc) (hR:∀τ' H' s',?rD->Q H'->R (.ok .next) s') :
 ?eM (?dK Y.prog Y.w) Y.A (?vJ ?bF 0 ?gB ?aG Y.env) R s:=by
 obtain⟨W,⟨m0,w0⟩,turn⟩:=h;have fS:∀{H':Hp},(∀b∈fp,H' b=none)->∀b∈fp,Qo Y [] H' b:=fun hn b hb=>⟨hn b hb,(?fO).2⟩
 have no:∀{P:Prop}{e:Value}{s':Shared},Y.xe e s'->P:=fun z=>by rw[hx]at z;exact z.elim
 refine codeAny_loop rfl (fun n s'=>∃i ys τ' H',?rD/\?BP ?fU n) ?_ m0 ⟨0,[],τ,H,I,st,fun b hb=>(?fO).1,w0⟩;rintro n s3 ⟨i,ys,τ3,H3,I3,st3,QL,w3⟩;show ?v _ Y.A ((compTurn ?bF 0 ?gB ?aG Y.env).onRaise (fun x=>do noteFrame x Y.env;theTreesLotGoes x)) _ _ s3;refine wpAny_noted ?_;rw[compTurn_list];refine qa7 (wpAny_standAt (?dU));rcases turn i n ys τ3 H3 w3 with⟨stop,qn⟩|⟨go,N,hN,step⟩
 . refine ?CS (T.done Y rfl rfl rfl hc i [] s3 τ3 H3 (?gJ) I3 (fS QL) st3 stop);obtain⟨hr,I4⟩:=_z;subst hr;exact qc6 (hR _ _ _ I4 qn)
 . refine ?CS (T.item Y rfl rfl rfl hc i [] s3 τ3 H3 (?gJ) I3 (fS QL) st3 go);obtain⟨u,hr,h4⟩:=_z;subst hr;refine qa7 (qp1 h4 (fun _ s5 _z=>?_) ?kO);obtain⟨x,H5,I5,r5,y5,wO,yV⟩:=_z;have I5':=I5.pinned (fS yV) (T.obj _ _ wO)
   have again:∀{τ7:St}{H7:Hp}{ys7:?j}{s7:Shared},Bp Y ([]++X0 fp s5.heap) τ7 H7 s7->N ys7 τ7 H7->∃m,m<n/\∃i ys τ' H',Bp Y [] τ' H' s7/\?BP s7.heap m:=fun {τ7 H7 ys7 s7} I7 n7=>by
    obtain⟨m',hm,w7⟩:=hN ys7 τ7 H7 n7;refine⟨m',hm,i+1,ys7,τ7,H7,I7.unpinned,T.keep _ _ _ wO fun b hb o e=>(?sV).1,?eT,w7⟩;obtain⟨o,e,d⟩:=T.obj _ _ wO b hb;exact(?sV).2.1
   refine qa7 (qp1 (hg _ s5 τ3 H5 x u _ I5' r5 (step x H5 y5)) (fun _ s6 _z=>?_) fun _ _ z=>no z);obtain⟨τ6,H6,I6,q6⟩:=_z;refine qa7 (qp1 (ht _ s6 τ6 H6 _ I6 q6) (fun ok s7 _z=>?_) fun _ _ z=>no z);obtain⟨H7,I7,q7⟩:=_z;cases ok with
   | false =>
     have q8:N ys τ6 H7:=?xR
     exact qc6 ⟨rfl,again I7 q8⟩
   | true =>
     have q8:te τ6 H7 fun y H4=>?nA/\?C6 τ6:=?xR
     refine qa7 (qa7 (qp1 (he _ s7 τ6 H7 _ I7 q8) (fun y s8 _z=>?_) ?yP));obtain⟨v8,H8,I8,r8,hD,hl,n8⟩:=_z;refine qa7 (qp1 (Ft _ s8 τ6 H8 ?aG [v8] ?aG [y] (fun _ H9=>N (ys++[v8]) τ6 H9) I8 rfl (?aH r8 ?T) ⟨D,ys,v8,rfl,rfl,hD,hl,n8⟩) (fun _ s9 _z=>?_) ?yP);obtain⟨_,H9,I9,_,n9⟩:=_z;exact qc6 (qc6 ⟨rfl,again I9 n9⟩)
theorem Zj[?b5]{J:It}[?e5]{it:Addr}{tn:?yG}{RR:?dR->Addr->?pT}{Q:Addr->?a9}{E:?l4}
 [?jX] [?k1] [?yX]
 [?A] (T:Wp ?bI X.w X.K tg J fp it tn) (st:?tW) [?g0]
 (h:∀D,?e0->?CG (Q D) H)
 (hR:∀D C s' H' m',?e0->?mN->s'.os=s.os->AllBare s'.gens->Un (ML X.stack) fp H H' ?bM ?fU->Q2 ?bI X.w H' ?fU->s'.heap.Ns C m'->H' C=none->C ∉ fp->Q D H'->RR ?aG C (.ok .next) s') :
 ?v ?c4 X.A (newList []) (fun acc s₃=>?v ?c4 X.A (newFunctionEnv sc X.env.globals (?kQ) [] X.env.qual ?dO ?c3 (?c ?h)) (fun cenv s₄ =>
  ?eM ?c4 X.A (.compStart ?bF 0 ?gB acc { cenv with scope:=?n1 }) (RR acc cenv.locals) s₄) E s₃) E s:=by
 have hb:?v2:=fun b hb=>by
  obtain⟨o,e,_⟩:=T.obj _ _ st b hb;exact ?dC
 refine qm3 (wpAny_newFunctionEnv ?f9 (by intro y hy;simp at hy) (fun h₁ yJ TH=>?_) ?kK);dsimp only at yJ TH ⊢;generalize zZ:?xJ { cls:=?bC,dict:=none,data:=?aU ([]:?B).toArray }=H2 at yJ TH ⊢;have hC:H2.objs.size=?oK:=by rw[←zZ,qi3]
 have hCl:s.heap.objs.size<=H2.objs.size:=?vA
 have hCn:s.heap.objs.size≠H2.objs.size:=by rw[hC];exact(qt0 _).symm
 have old:∀b o,?gP->?pM b=?r:=fun b o e=>by
  have l1:=?dC;exact ?rO b o (qc9 (qb4 l1 hCl)) (qa6 _ (zZ▸ ?gO))
 have hl:?pM ?w=?CC 0:=?rO _ _ hCn (qa6 _ (zZ▸ ?eP));have A68:h₁.Ns ?nM ?kM:=by simpa using yJ
 have I4:Bp (?iI) [] ?iL (upd H ?w ?bE) ?u8:=PN c I hC rfl hf hb A68 hl old;have hfr:?kI:=I.fresh
 have f4:∀b∈fp,Qo (?iI) [] (upd H ?w ?bE) b:=fun b hb'=>by
  obtain⟨f0,f1,f2,f3,f4,f5⟩:=?iE;have lb:=?xC;refine⟨by rw[?lA];exact f0,(qc9 (qb4 lb hCl):b≠H2.objs.size),fun z=>?_,?i hb',fun x a e=>f4 x a (?o7),?xH⟩;rcases ?f7 (I.stkSub b z) with e | e
  . exact f1 e
  . exact f2 e
 have st4:tn 0 h₁:=T.keep _ _ _ st fun b _ o e=>old b o e
 have loop:∀s₅:Shared,s₅=?u8 →
  ?eM ?c4 X.A (?vJ ?bF 0 ?gB (?dZ) (?iI).env) (RR (?dZ) ?nM) s₅:=by
  rintro s₅ rfl;refine lZ (Y:=?iI) (J:=J) (fp:=fp) (tn:=tn) (Q:=Q ?w) rfl hc (hg _ _ _ _) (ht _ _ _ _) (he _ _ _ _) T st4 f4 I4 (h _ hfr) fun τ' H' s' I' q'=>?_;obtain⟨m',hn',_⟩:=I'.loc;exact hR _ _ s' H' m' hfr hCl I'.os I'.bare I'.base I'.hok hn' I'.free (fun z=>?N (qb4 (hb _ z) hCl) (qo6 _)) q'
 exact codeAny_compStart_list (loop _ rfl) (T.self _ 0 _ _ _ st4 (loop _ rfl))
noncomputable def UM(wi:TI)[?jQ](g:TG)(tc:TT)(te:TE):TE:=fun σ H Q=>wi σ H fun J H1=>∀D,H1 D=none->?CG (fun H'=>?hC) H1
theorem Bp.fpCh{Af:Bl}{H:Hp}[?e5][?g0]:∀b∈fp,(b∈X.ex\/X.s₀.heap.objs.size<=b)/\b≠X.env.locals/\(∀x c,?m9 x=?aY->c≠b)/\∀p∈X.pn++Af,p.1≠b :=
 fun b hb=>let ⟨_,f1,_,f3,f4,f5⟩:=?fO;⟨f3,f1,f4,f5⟩
theorem B7{wi:TI}[?zA](hg:?tQ)(ht:?tA)
 (he:?qR) [?zL]:PE X ?bF (UM wi cap g tc te):=by
 intro Af s σ H Q I h;have c:?iV:=JM hcap;rw[eval_ListComp];refine ?vG (use:=none) rfl hs ?tX ?kK ?sQ (?B2 h);ext zM;refine Zj (RR:=?C0 ?dO (EP X Af σ Q)) (Q:=fun D H'=>?hC) c hc hg ht he I2 T st2 f2 hW ?_;intro D C s' H' m' hD hC hos hbare hun hok hn hHC hCf q;refine⟨m',hn,fun h' Oo=>?_⟩;ext yZ;have I4:Bp X Af σ H' { s' with heap:=h' }:=I3.turned (t':=s'.toks) (fun b o hb e=>(?aB b hb).trans e) hHC k1 k3 k4 k5;exact⟨?k D,H',I4,rfl,q⟩
theorem Nt{wi:TI}{i:Nat}{x:Str}{px spos:Pos}(hN:X.N.Nodup)(hi':?pL)(hx:ZJ ?kV x)[?zA]
 [?yX]
 (hsw:?rM ?bF (?c (?dV)) spos.line ?h=?O ?aF:=by rfl)
 [?zL] (hf:X.fn x=true\/?AX x=?c .local:=by first | exact ?bG | exact ?e rfl | assumption) :
 PS X (.Assign [?dV] ?bF spos) (QV (UM wi cap g tc te) (AO i)):=by
 intro Af s σ H D I h;have c:?iV:=JM hcap;rw[exec_Assign_Name_used _ _ _ _ hsw];refine qa7 (wpAny_standAt (?dU));show ?v _ X.A (do let _ ←comprehension ?bF sc ?h _ (newList []) ?b7 (?D5 iter) (?D4 ?h)) _ _ s
 refine qa7 (Du (?vG (use:=?D4 ?h) (Q:=?vP) rfl hs ?tX ?kK ?sQ
  (?B2 h)) fun _ s' hq=>qc6 (qc6 hq))
 ext zM;refine Zj (RR:=?C0 (?D4 ?h) (?vP)) (Q:=fun A H'=>AO i (?k A) σ H' D.nx) c hc hg ht he I2 T st2 f2 hW ?_;intro A C s' H' m' hD hC hos hbare hun hok hn hHC hCf q;ext yZ;show ?v _ X.A (assign (?dV) ?h (?k A)) _ _ s';refine wpAny_assign_Name (y9 I3 hN hi' hx (v:=?k A) rfl (fun s'' I'' _z=>?_) hf);obtain⟨a,Oo,ha⟩:=_z
 have hCa:C≠a:=by
  rcases ha with z | z
  . rw[z];exact k1
  . exact fun z'=>k4 x a z z'.symm
 refine⟨m',hn.sameBut Oo hCa,fun h' A59=>?_⟩;have I4:Bp X Af (σ.set i (?c (?k A))) H' { s'' with heap:=h' }:=I''.turned (t':=s''.toks) (fun b o hb e=>(A59.2 b hb).trans e) hHC k1 k3 k4 k5;exact⟨_,H',I4,q⟩
universe e9
section
variable{g:TG}{tc:TT}[?cT]
theorem Kk[?l][?cV][?b4][?oZ]
 [?yW]
 [?fX]:?AO ?vC tc:=by
 ext oU;ext z3
 . ext oT;ext zG
 . ext jP
   ext zN
theorem pN[?l][?cV][?b4][?zW]
 [?yW]
 [?fX]:?AO ?uI tc:=by
 ext oU;ext z3
 . ext oT;ext zG
 . ext jP
   ext zN
theorem Zh{lo:Int}{n:Nat}[?b4]
 (hs:?BO ?kF)
 [?AH]:?AO ?uB tc:=by
 refine⟨fun i m ys τ H=>m=n-i/\i<=n/\?aV,?kD,?_⟩;rintro i m ys τ H ⟨rfl,hi,p⟩;by_cases hlt:i<n
 . refine ?e ⟨hlt,?cO,?xI,?fS⟩;obtain⟨e,y⟩:=y;subst e y;exact hs i ys τ _ hlt p
 . have e:i=n:=O9m
   subst e;exact ?C2 ?a4 ?s1
universe e9
universe L2
namespace L2
open PySem PySem.Spec PyProof.Rows PySem.SeqAt
inductive D where
 | non | bl (b:Bool) | int (i:Int) | str (x:Str) | tup [?g6] | lst [?g6]
mutual
def Rep[?f](H:Hp):?B9 V D
 | v,?R=>v=?R
 | v,?c9=>v=?c9
 | v,?x=>v=?x
 | v,?M x=>v=?M x
 | v,?c2=>∃a vs,?dI/\Ed K H a vs/\?b2
 | v,?eJ=>∃a vs,?dI/\?B4 a vs/\?b2
 def Reps[?f](H:Hp):?B9 ?j ?F
 | vs,[]=>vs=[]
 | vs,?bL=>∃v r,vs=v::r/\?bH/\?BR r ds
end
mutual
def YE:?k8
 | ?g _=>false
 | ?c2=>?lC
 | _=>true
def imms:?x2
 | []=>true
 | ?bL=>YE d&&?lC
 end
mutual
def dep:D->Nat
 | ?eJ=>?b0+1
 | ?c2=>?b0+1
 | _=>0
def deps:?F->Nat
 | []=>0
 | ?bL=>max (?i4) (?b0)
end
mutual
def eqD:D->?k8
 | ?R,?R=>true
 | .bl a,?c9=>a==b
 | .bl a,?dT=>(if a then 1 else 0)==b
 | ?d a,?c9=>a==(if b then 1 else 0)
 | ?d a,?dT=>a==b
 | ?M a,?M b=>a==b
 | ?u a,?u b=>?eS
 | ?g a,?g b=>?eS
 | _,_=>false
def eqDs:?F->?x2
 | [],[]=>true
 | a::r,b::q=>eqD a b&&eqDs r q
 | _,_=>false
end
mutual
theorem Tg(d:D):eqD d d=true:=by
 cases d with
 | non=>rfl
 | bl b=>simp[eqD]
 | int b=>simp[eqD]
 | str b=>simp[eqD]
 | tup ds=>simp only[eqD];exact ?lQ ds
 | lst ds=>simp only[eqD];exact ?lQ ds
theorem eqDs_refl[?g6]:eqDs ds ds=true:=by
 cases ds with
 | nil=>rfl
 | cons d r=>simp only[eqDs,qc8];exact⟨Tg d,?lQ r⟩
end
theorem eqDs_len:∀{a b:?F},?eS=true->?iS
 | [],[],_=>rfl
 | [],?bN,h=>?sP
 | ?bN,[],h=>?sP
 | x::a,y::b,h=>by
   simp only[eqDs,qc8]at h;rw[qc5,qc5,?tF h.2]
theorem Y9:∀(a b:?F),?iS->?eS=(?bJ a.length).all fun j=>match a[j]?,b[j]? with | ?b3,?eI=>eqD x y | _,_=>true
 | [],[],_=>by simp[eqDs]
 | [],?bN,h=>?kG
 | ?bN,[],h=>?kG
 | x::a,y::b,h=>by
   have h':?iS:=?xS
   rw[qc5,List.range_succ_eq_map,List.all_cons,List.all_map];simp only[eqDs,Y9 a b h']
   congr 1
structure Tx(H H':Hp):Prop where
 tup:∀b xs,H b=?c (?u xs)->H' b=?c (?u xs)
 frz:∀b o u,H b=?c (.frz o u)->H' b=?c (.frz o u)
section
variable[?l]{H H' H1 H2:Hp}{a l p:Addr}{xs:?j}{o:HO}
theorem Same.t[?k4]:?fT:=⟨fun b xs h=>x b _ h,fun b o u h=>x b _ h⟩
theorem Tx.lst(h:?j1):Tx H (upd H l o):=⟨fun b ys e=>?sH,fun b ob u e=>?sH⟩
theorem Same.new(h:?iY):?a6 H (upd H l o):=fun b u e=>by rw[Ak (Ar e h)];exact e
theorem Same.turn(x:?f6)(h:?iY):?a6 H (upd H1 l o):=fun b u e=>by rw[Ak (Ar e h)];exact x b u e
theorem Ed.t(x:?fT)(h:?eE):?yB:=by
 rcases h with(h|⟨o,h⟩) | h
 . exact ?i (?i (x.tup _ _ h))
 . exact ?i (?e ⟨o,x.frz _ _ _ h⟩)
 . exact ?e h
theorem Same.seqT[?k4](h:?eE):?yB:=h.t x.t
mutual
theorem Rep.t(x:?fT){v:V}{d:D}(hi:YE d=true)(h:?bH):?tZ:=by
 cases d with
 | non=>exact h
 | bl b=>exact h
 | int i=>exact h
 | str x=>exact h
 | tup ds =>
   ext fZ;exact⟨a,vs,e,q.t x,Reps.t x (by simpa[YE]using hi) r⟩
 | lst ds=>simp[YE]at hi
theorem Reps.t(x:?fT)[?bW](hi:?lC=true)[?pI]:?pR:=by
 cases ds with
 | nil=>exact h
 | cons d r =>
   obtain⟨v,q,e,h1,h2⟩:=h;simp only[imms,qc8]at hi;exact⟨v,q,e,Rep.t x hi.1 h1,Reps.t x hi.2 h2⟩
end
mutual
theorem Rep.same[?k4]{v:V}{d:D}(h:?bH):?tZ:=by
 cases d with
 | non=>exact h
 | bl b=>exact h
 | int i=>exact h
 | str x=>exact h
 | tup ds =>
   ext fZ;exact⟨a,vs,e,x.seqT q,?k5 x r⟩
 | lst ds =>
   ext fZ;exact⟨a,vs,e,x.seq q,?k5 x r⟩
theorem Reps.same[?k4][?bW][?pI]:?pR:=by
 cases ds with
 | nil=>exact h
 | cons d r =>
   obtain⟨v,q,e,h1,h2⟩:=h;exact⟨v,q,e,?uP x h1,?k5 x h2⟩
end
theorem Reps.length:∀[?bW],?b2->vs.length=ds.length
 | vs,[],h=>by ext jN;rfl
 | vs,?bL,h=>by
   obtain⟨v,r,rfl,_,h2⟩:=h;rw[qc5,qc5,Reps.length h2]
theorem Reps.get:∀[?bW]{i:Nat}{d:D},?b2->?oA->∃v,vs[i]?=?aI/\?bH
 | vs,[],i,d,h,e=>?rI
 | vs,?o9,0,d,h,e=>by
   obtain⟨v,r,rfl,h1,_⟩:=h;simp only[qs8,Option.some.injEq]at e;subst e;exact⟨v,?Q,h1⟩
 | vs,?o9,i+1,d,h,e=>by
   obtain⟨v,r,rfl,_,h2⟩:=h;obtain⟨u,e1,e2⟩:=Reps.get (i:=i) h2 (?eF);exact⟨u,by simpa using e1,e2⟩
theorem Reps.getV:∀[?bW]{i:Nat}{v:V},?b2->vs[i]?=?aI->∃d,?oA/\?bH:=fun {vs ds i v} h e=>by
 have hl:=h.length;have hi:i<vs.length:=?uQ;obtain⟨d,hd⟩:∃d,?oA:=⟨ds[i]' ?cZ,?a2⟩
 obtain⟨u,e1,e2⟩:=h.get hd;rw[e]at e1;cases e1;exact⟨d,hd,e2⟩
theorem Reps.append:∀{vs ws:?j}{ds es:?F},?b2->?BR ws es->?BR (vs++ws) (ds++es)
 | vs,ws,[],es,h,h'=>by ext jN;exact h'
 | vs,ws,?bL,es,h,h'=>by
   ext pB;exact⟨v,r++ws,rfl,h1,Reps.append h2 h'⟩
theorem Reps.one{v:V}{d:D}(h:?bH):?BR [v] [d]:=⟨v,[],rfl,h,rfl⟩
theorem Reps.snoc[?bW]{v:V}{d:D}[?pI](h':?bH):?BR (vs++[v]) (ds++[d]):=h.append (.one h')
theorem Reps.take:?D2 vs.take ds.take
 | vs,ds,0,h=>by simp[Reps]
 | vs,[],n+1,h=>?r5
 | vs,?bL,n+1,h=>by
   ext pB;exact⟨v,r.take n,rfl,h1,Reps.take n h2⟩
theorem Reps.drop:?D2 vs.drop ds.drop
 | vs,ds,0,h=>h
 | vs,[],n+1,h=>?r5
 | vs,?bL,n+1,h=>by
   ext pB;exact Reps.drop n h2
noncomputable def D9[?bZ]:?F:=?aJ D.int
noncomputable abbrev tI[?bZ]:D:=?u ?d6
theorem AL:∀ns:?m,imms ?d6=true
 | []=>rfl
 | ?g9=>by show(YE (?bQ)&&imms ?d6)=true;rw[AL ns];rfl
theorem oR[?bZ]:YE (tI ns)=true:=AL ns
theorem Yu:∀xs:Am,imms ?bR=true
 | []=>rfl
 | x::xs=>by show(YE (tI x)&&imms ?bR)=true;rw[Yu xs,oR];rfl
theorem AQ:∀a b:?m,?s7=?vU
 | [],[]=>?o1
 | [],?bN=>?o1
 | ?bN,[]=>?o1
 | x::a,y::b=>by
   show(eqD (?d x) (?d y)&&?s7)=_;rw[AQ a b];simp only[eqD];by_cases e:x=y
   . subst e;by_cases e2:a=b<;>simp[e2]
   . simp[e]
theorem pB(a b:?m):eqD (tI a) (tI b)=?vU:=by simp only[eqD];exact AQ a b
theorem Ei:∀{vs:?j}[?b6],?BR vs ?d6↔vs=?lM
 | vs,[]=>Iff.rfl
 | vs,?g9=>by
   constructor
   . rintro ⟨v,r,rfl,h1,h2⟩;have FJ:v=?bQ:=h1;rw[FJ,Ei.mp h2];rfl
   . rintro rfl;exact⟨?bQ,?lM,rfl,rfl,?t7⟩
universe e9
section
variable{X:Cx}[?b5]
theorem IZ[?A]{a:Addr}{xs ys:?j}(h:Ed X.K H a xs)(h':SqL X.K H a ys):False:=by
 obtain⟨its,r,⟨o,e,c,n,d⟩,_⟩:=?aW h;obtain⟨its',r',⟨o',n',e',c',_,d'⟩,_⟩:=?aC h';rw[e]at e';cases e';rw[c]at c';have z:(?d8:String)=?c7:=by injection c'
 exact ?N z ?c1
mutual
theorem Rep.inj[?A]{v:V}{d e:D}(h:Rep X.K H v d)(h':?kZ):d=e:=by
 cases d with
 | non=>cases (?CR v ?R);cases e<;>first | rfl | (exfalso;first | (cases (show V.non=_ from h')) | ext jF)
 | bl b=>cases (?CR v ?c9);cases e<;>first | (cases (?AW V.bl);rfl) | (exfalso;first | (cases (?AW V.bl)) | ext jF)
 | int b=>cases (?CR v ?dT);cases e<;>first | (cases (?AW ?H);rfl) | (exfalso;first | (cases (?AW ?H)) | ext jF)
 | str b=>cases (show v=?M b from h);cases e<;>first | (cases (?AW V.str);rfl) | (exfalso;first | (cases (?AW V.str)) | ext jF)
 | tup ds =>
   obtain⟨a,vs,rfl,q,r⟩:=h;cases e with
   | tup es =>
     ext jE;have e1:=I.tuple_inj q q';subst e1;rw[?w3]
   | lst es =>
     ext jE;exact(IZ I q q').elim
   | non=>ext bU
   | bl _=>ext bU
   | int _=>ext bU
   | str _=>ext bU
 | lst ds =>
   obtain⟨a,vs,rfl,q,r⟩:=h;cases e with
   | lst es =>
     ext jE;have e1:=?gT q q';subst e1;rw[?w3]
   | tup es =>
     ext jE;exact(IZ I q' q).elim
   | non=>ext bU
   | bl _=>ext bU
   | int _=>ext bU
   | str _=>ext bU
 theorem Reps.inj[?A]{vs:?j}{ds es:?F}(h:?d3)(h':?p X.K H vs es):ds=es:=by
 cases ds with
 | nil =>
   cases (show vs=[] from h);cases es with
   | nil=>rfl
   | cons e es=>ext fY
 | cons d ds =>
   obtain⟨v,r,rfl,h1,h2⟩:=h;cases es with
   | nil=>cases (show v::r=[] from h')
   | cons e es =>
     obtain⟨v',r',z,FJ,h2'⟩:=h';cases z;rw[?oR I h1 FJ,?yF I h2 h2']
end
noncomputable def EqD(X:Cx)(H:Hp)(s:Shared)(d:D):Prop:=∀(A:Around) (x y:V) (u v:Value) (e:D),A.units+?i4<cLine->?lI->Rep X.K H y e->RelV x u->RelV y v->RcAt A s u v (eqD d e)/\EqAt A s u v (eqD d e)
theorem MW[?A]{ds es:?F}{vs ws:?j}{us us':?B}{A:Around}(hu:?qA)(r:?d3)(r':?p X.K H ws es)(rv:?fD)(UP:?dB ws us')
 (ih:?rV) (hdm:∀d∈ds,?pV):∀j (h1:j<us.toArray.size) (h2:j<us'.toArray.size),EqAt A s ?uK ?pS (match ds[j]?,es[j]? with | ?b3,?eI=>eqD x y | _,_=>true):=by
 intro j h1 h2;ext oV;have FJ:j<us.length:=by simpa using h1
 have h2':j<us'.length:=by simpa using h2
 have e1:ds[j]?=?c (?vQ):=?a2
 have e2:es[j]?=?c (es[j]' ?cZ):=?a2
 obtain⟨v,ev,rd⟩:=?hK e1;obtain⟨w,ew,re⟩:=r'.get e2;obtain⟨u,eu,ru⟩:=?hE ev;obtain⟨u',eu',ru'⟩:=UP.get ew
 have f1:?uK=u:=by
  have:us[j]?=?c us[j]:=?Q
  rw[eu]at this;have:=?nV;ext aP
 have f2:?pS=u':=by
  have:us'[j]?=?c us'[j]:=?Q
  rw[eu']at this;have:=?nV;ext aP
 rw[f1,f2,e1,e2];have hm:?vQ∈ds:=qd3 _;exact(ih _ hm A v w u u' _ (by have:=hdm _ hm;omega) rd re ru ru').2
theorem Wz:∀{ds:?F}{d:D},d∈ds->?pV
 | ?o9,d,h=>by
   simp only[deps];rcases ?iR with rfl | h
   . omega
   . have:=Wz h;omega
theorem AE{a b:?F}(h:¬?iS):?eS=false:=by
 cases q:eqDs a b with
 | false=>rfl
 | true=>exact ?N (?tF q) h
mutual
theorem GX[?A](d:D):?sB:=by
 intro A x y u v e hu hx hy rx ry;cases d with
 | non =>
   cases (show x=.non from hx);cases (show u=Value.none from rx);cases e with
   | non=>ext e2;exact⟨.none_none,?k7⟩
   | bl b=>ext e1;exact⟨.none_bool b,.none_bool b⟩
   | int i=>cases (?BC ?x);ext g1;exact⟨.none_int i t,.none_int i t⟩
   | str z=>cases (?BZ z);ext g1;exact⟨.none_str z t,.none_str z t⟩
   | tup es=>ext bT;ext jG;exact⟨?yJ,?yJ⟩
   | lst es=>ext bT;ext jH;exact⟨?pZ,?pZ⟩
 | bl c =>
   cases (show x=.bl c from hx);cases (show u=Value.bool c from rx);cases e with
   | non=>ext e2;exact⟨.bool_none c,.bool_none c⟩
   | bl b=>ext e1;exact⟨.bool_bool c b,.bool_bool c b⟩
   | int i=>cases (?BC ?x);ext g1;exact⟨?rW,?rW⟩
   | str z=>cases (?BZ z);ext g1;exact⟨?pQ,?pQ⟩
   | tup es=>ext bT;ext jG;exact⟨?tV,?tV⟩
   | lst es=>ext bT;ext jH;exact⟨?x9,?x9⟩
 | int c =>
   cases (show x=.int c from hx);obtain⟨t,rfl⟩:=rx;cases e with
   | non=>ext e2;exact⟨.int_none c t,.int_none c t⟩
   | bl b=>ext e1;exact⟨?wU,?wU⟩
   | int i=>ext j8;exact⟨?uG,?uG⟩
   | str z=>ext j9;exact⟨?q2,?q2⟩
   | tup es=>ext bT;ext jG;exact⟨?sX,?sX⟩
   | lst es=>ext bT;ext jH;exact⟨?xA,?xA⟩
 | str c =>
   cases (show x=.str c from hx);obtain⟨t,rfl⟩:=rx;cases e with
   | non=>ext e2;exact⟨.str_none c t,.str_none c t⟩
   | bl b=>ext e1;exact⟨?vK,?vK⟩
   | int i=>ext j8;exact⟨?rG,?rG⟩
   | str z=>ext j9;exact⟨?rJ,?rJ⟩
   | tup es=>ext bT;ext jG;exact⟨?vF,?vF⟩
   | lst es=>ext bT;ext jH;exact⟨?wW,?wW⟩
 | tup ds =>
   ext zV;obtain⟨its,rv,p,_⟩:=?aW q;ext zD
   cases e with
   | non=>ext e2;exact⟨?vI,?vI⟩
   | bl b=>ext e1;exact⟨?yL,?yL⟩
   | int i=>ext j8;exact⟨?wG,?wG⟩
   | str z=>ext j9;exact⟨?rP,?rP⟩
   | lst es=>ext jB;obtain⟨its',_,p',_⟩:=?aC q';exact⟨?tS,?tS⟩
   | tup es =>
     have hy':=hy;ext jB;obtain⟨its',UP,p',_⟩:=?aW q'
     have main:?CI ?c2 ?u:=by
      have:=RcAt.tuples (A:=A) p p' O9m (?AS h);ext oV;ext zT
      ext zS
      rw[e1,e2]at this;ext A3
      . rw[?x7];rw[←hl,qw4]at this;ext aP
      . rw[AE hl];have z:(ds.length==es.length)=false:=by simpa using hl
        rw[z,Bool.and_false]at this;exact this
     refine ?wS;by_cases hab:a=b
     . subst hab;have e3:D.tup ds=D.tup es:=?s3;rw[e3,Tg];exact ?k7
     . exact ?v9
 | lst ds =>
   ext zV;obtain⟨its,rv,p,_⟩:=?aC q;ext zD
   cases e with
   | non=>ext e2;exact⟨?yO,?yO⟩
   | bl b=>ext e1;exact⟨?r9,?r9⟩
   | int i=>ext j8;exact⟨?rZ,?rZ⟩
   | str z=>ext j9;exact⟨?w1,?w1⟩
   | tup es=>ext jB;obtain⟨its',_,p',_⟩:=?aW q';exact⟨?wQ,?wQ⟩
   | lst es =>
     have hy':=hy;ext jB;obtain⟨its',UP,p',_⟩:=?aC q'
     have main:?CI ?eJ ?g:=by
      ext oV;ext zT
      ext zS
      ext A3
      . have:=RcAt.lists (A:=A) ?G ?o3 O9m O9m (?AS h);rw[e1]at this;rw[?x7];exact this
      . rw[AE hl];exact RcAt.lists_lengths ?G ?o3 (by simpa[e1,e2]using hl) O9m
     refine ?wS;by_cases hab:a=b
     . subst hab;have e3:D.lst ds=D.lst es:=?s3;rw[e3,Tg];exact ?k7
     . exact ?v9
 theorem eqDs_ok[?A][?g6]:?rV:=by
 cases ds with
 | nil=>exact fun _ h=>?i8
 | cons d0 r =>
   intro d h;rcases ?iR with e | h
   . exact e▸GX I d0
   . exact eqDs_ok I r d h
end
inductive IrEqD[?f](n:Nat)(x:V)(y:V)[?J]:Prop
 | mk:∀d e,?d5->(?AZ y e)->(?i4<=n)->(?B5 (eqD d e))->?wY
noncomputable def Ag3[?f](n:Nat):R2:=?BQ ?wY
theorem xE{n:Nat}[?bV]:OpR X ?sY (Ag3 X.K n):=by
 ext e3;obtain⟨d,e,hd,he,hn,q⟩:=h;exact(GX I d X.A x y v u e O9m hd he rx ry).1 ?bI X.w X.xe _ ⟨.bl (eqD d e),H,I,rfl,q⟩
universe e9
universe L2
namespace L2
open PySem PySem.Spec PyProof.Rows PySem.SeqAt
section
variable{X:Cx}
noncomputable def pA(X:Cx)(H:Hp)(d:D)(u:Value):Bool:=@decide (∃v e,?uM/\?kZ/\?m5=true) ?j4
theorem gX[?b5][?A]{d e:D}{v:V}{u:Value}(r:?uM)(h:?kZ):pA X H d u=?m5:=by
 cases q:eqD e d with
 | true=>exact @qg4 _ ?j4 ⟨v,e,r,h,q⟩
 | false =>
   refine @qj4 _ ?j4 ?_;rintro ⟨v',e',r',h',q'⟩;have:=r.inj r';subst this;rw[?oR I h h']at q;rw[q]at q';cases q'
theorem Y8[?b5][?A]{A:Around}{x:V}{v:Value}{d:D}[?AD](hu:?qA)(hx:?lI)(rx:RelV x v)
 (r:?d3) (rv:?fD):∀y,y∈us.toArray->EqAt A s y v (pA X H d y):=by
 intro y hy;have hy':y∈us:=by simpa using hy
 obtain⟨i,hi⟩:=qh7 hy';have hlt:i<us.length:=?gW;have l1:=rv.length;obtain⟨w,hw⟩:∃w,vs[i]?=?f8:=⟨vs[i]' ?cZ,?a2⟩
 obtain⟨u,YH,ru⟩:=?hE hw;rw[hi]at YH;cases YH;obtain⟨e,he,re⟩:=r.getV hw;rw[gX I ru re];have hm:e∈ds:=qb6 he;exact(GX I e A w x y v d (by have:=Wz hm;omega) re hx ru rx).2
theorem cT[?b5][?A]{d:D}:∀[?AD],?d3->?fD->us.any ?b8=?fA
 | vs,us,[],r,rv=>by
   cases (show vs=[] from r);cases rv;rfl
 | vs,us,e::ds,r,rv=>by
   obtain⟨v,q,rfl,h1,h2⟩:=r;cases rv with
   | cons r1 r2=>rw[qm2,qm2,gX I r1 h1,cT I h2 r2]
noncomputable def Ap7[?f](H:Hp)(y:V)[?g6]:Prop:=?AZ y (?eJ)\/?AZ y (?c2)
inductive vX[?f](n:Nat)(neg:Bool)(x:V)(y:V)[?J]:Prop
 | mk:∀d ds,?d5->(Ap7 K H y ds)->(?b0+1<=n)->(?B5 (if neg then !(?fA) else ?fA))->?v4
noncomputable def RI[?f](n:Nat)(neg:Bool):R2:=?BQ ?v4
theorem XD{n:Nat}[?bV]:OpR X ?xX (RI X.K n ?b7):=by
 ext e3;obtain⟨d,ds,hx,hs,hn,q⟩:=h
 have fin:?BB (us.toArray.any ?b8):=fun r rv =>
  ⟨.bl (?fA),H,I,?pP,q⟩
 ext zR
 . cases ry;obtain⟨its,rv,p,_⟩:=?cL;exact ?CY in_listAt ?G
 . ext A9;exact ?CY in_tupleAt p
theorem KR{n:Nat}[?bV]:?C8 X.K:=by
 ext e3;obtain⟨d,ds,hx,hs,hn,q⟩:=h
 have fin:?BB (!us.toArray.any ?b8):=fun r rv =>
  ⟨.bl (!(?fA)),H,I,?pP,q⟩
 ext zR
 . cases ry;obtain⟨its,rv,p,_⟩:=?cL;exact ?CY notIn_listAt ?G
 . ext A9;exact ?CY notIn_tupleAt p
inductive JU[?f](n:Nat)(x:V)[?cX][?J]:Prop
 | mk:∀ds y d j,?r1->(?AZ x (?eJ))->(?AZ y d)->(?b0+1<=n)->(ds.findIdx? (?yD)=?f1)->(Q (?sA) H)->?w9
noncomputable def NC[?f](n:Nat):?eN:=?BW ?w9
theorem OC{n:Nat}[?bV]:MtR X ?wK (NC X.K n):=by
 ext jC;obtain⟨ds,y,d,j,rfl,⟨a,ws,rfl,hq,r⟩,hy,hn,hj,q⟩:=h;ext p4;obtain⟨its,rw',p,hz⟩:=?cL;have l1:=r.length;have l2:=rw'.length;obtain⟨hlt,hit,hno⟩:=List.findIdx?_eq_some_iff_getElem.mp hj
 have at':∀m (hm:m<its.toArray.size) (hm':m<ds.length),pA X H d ?xE=eqD ds[m] d:=fun m hm hm'=>by
  obtain⟨w,hw,re⟩:=?hK (i:=m) (d:=ds[m]) ?o;obtain⟨u',hu',ru'⟩:=rw'.get hw
  have e1:?xE=u':=by
   have hm2:m<its.length:=by simpa using hm
   have:its[m]?=?c its[m]:=?Q
   rw[hu']at this;have:=?nV;ext aP
  rw[e1];exact gX I ru' re
 obtain⟨o,k,ho,hc,hdn,hd⟩:=id p;obtain⟨cls,dd,data,sl⟩:=o;simp only at hc hdn hd;subst hc hdn hd;have hsz:?BI ds.length:=O9m
 have big:?pU<2 ^ 62:=by rw[sizeLine_eq];decide
 refine ?d1 PySem.F.slot_list_index ?nI PySem.F.entry_list_index (PySem.F.args_list_index_2 _ _)
  (list_indexAt a ?L k ?dO sl u ?b8 j (?a2) O9m ?_ ?_) ⟨ho,Y8 I (A:=X.A.in1) (by ext fW) hy ru r rw',?_⟩
 . rw[at' j (?a2) hlt];exact hit
 . intro m hm hmj;rw[at' m hm ?Z];have:=hno m hmj;ext aP
 . exact⟨?sA,H,I.tok _,?i7,q⟩
noncomputable def JD(n:String):?k8
 | ?R=>false
 | .bl _=>n==?bA || n==?dM
 | ?d _=>n==?bA
 | ?M _=>n=="str"
 | ?u _=>n==?d8
 | ?g _=>n==?c7
noncomputable def tyD:D->String
 | ?R=>"NoneType"
 | .bl _=>?dM
 | ?d _=>?bA
 | ?M _=>"str"
 | ?u _=>?d8
 | ?g _=>?c7
theorem xZ[?l]{n:String}{d:D}(hn:?oJ):PySem.W.kitOne K (?P (tyD d)) (?P n)=?c (JD n d):=by
 rcases hn with rfl | rfl | rfl | rfl | rfl | rfl<;>cases d<;>(unfold PySem.W.kitOne PySem.W.kitCls PySem.W.subIn tyD JD;first | rfl | ext V)
theorem EX:?D6 ?hS (fun xs H Q=>∃x n d,xs=[x,.ty n]/\(?oJ)/\?lI/\?B5 (JD n d)):=by
 intro Af s σ H xs us Q I r h;obtain⟨x,n,d,rfl,hn,hx,q⟩:=h;obtain⟨u,v,rfl,rx,rt⟩:=CZ r;cases rt;have k:=xZ (K:=X.K) (d:=d) hn;have fin:∀tk,EP X Af σ Q (?bP (JD n d)) { s with toks:=tk }:=fun tk=>⟨.bl (JD n d),H,I.tok tk,rfl,q⟩
 cases d with
 | non=>cases (?CQ ?R);cases (show u=Value.none from rx);exact ?AT PySem.W.kitx_none ?gV
 | bl b=>cases (?CQ ?c9);cases (show u=?hO b from rx);exact ?AT PySem.W.kitx_bool ?gV
 | int b=>cases (?CQ ?dT);obtain⟨t,rfl⟩:=rx;exact ?AT PySem.W.kitx_int ?gV
 | str b=>cases (show x=?M b from hx);obtain⟨t,rfl⟩:=rx;exact ?AT PySem.W.kitx_str ?gV
 | tup ds =>
   obtain⟨a,vs,rfl,hq,_⟩:=hx;cases rx;obtain⟨its,_,⟨o,e,c,_⟩,_⟩:=?aW hq;exact ?AT PySem.W.kitx_tuple ?qI
 | lst ds =>
   obtain⟨a,vs,rfl,hq,_⟩:=hx;cases rx;obtain⟨its,_,⟨o,_,e,c,_⟩,_⟩:=?cL;exact ?AT PySem.W.kitx_list ?qI
inductive qB[?f](x:V)(y:V)[?J]:Prop
 | mk:∀a b xs ys,(x=?S)->(y=?a3)->(?eE)->(Ed K H b ys)->(xs.length+ys.length<=sizeLine)->?CL (xs++ys) ?u4
noncomputable def uR[?f]:R2:=?BQ ?u4
theorem RZ:?CU uR X.K:=by
 ext e3;obtain⟨a,b,xs,ys,rfl,rfl,ha,hb,hz,q⟩:=h;by_cases hx:xs=[]
 . subst hx;cases rx;cases ry;obtain⟨its,r1,p1,_⟩:=?aW ha;obtain⟨its2,r2,p2,_⟩:=?aW hb;cases r1;obtain⟨⟨cls,dd,data,sl⟩,ho,hc,n,hd⟩:=id p1;obtain⟨⟨Ap2,dd2,data2,sl2⟩,ho2,hc2,n2,hd2⟩:=id p2;ext A2
   exact ?sR ?nI ?yQ noFill_tuple_add seq_tuple_add qt1 qs5 (qr7 _ _)
    (tuple_addW0 a b _ _ n n2 dd dd2 sl sl2 ?o) ⟨ho,ho2,⟨?a3,H,I,rfl,q b H (Same.refl H) (?fR)⟩⟩
 . refine sA Af s σ H ?bK ?f5 v u Q I rx ry ⟨a,b,xs,ys,rfl,rfl,ha,hb,hx,hz,fun e=>?_,fun e p hp=>?_⟩
   . subst e;exact q a H (Same.refl H) (by simpa using ha)
   . exact ?tK
inductive PZ[?f](x:V)(lo:?h3)(hi:?h3)[?J]:Prop
 | mk:∀a xs,(x=?S)->(?eE)->(¬(HT.sIx ?aS 0 lo=0/\HT.sIx ?aS ?aS hi=xs.length))->?CL (Cf xs lo hi) ?sM
noncomputable def UQ[?f]:V->?h3->?h3->?B9 Hp VK:=fun x lo hi H Q=>?sM
theorem QX:SlR X (UQ X.K):=by
 intro Af s σ H x v vl vu lo hi sl Q I rx hs pl pu h;obtain⟨a,xs,rfl,hx,hw,q⟩:=h;exact wQ Af s σ H ?bK v vl vu lo hi sl Q I rx hs pl pu ⟨a,xs,rfl,hx,hw,fun p hp=>?tK⟩
inductive jW[?f](x:V)(y:V)[?J]:Prop
 | mk:∀l b xs zs,?eU->(y=?a3)->(?B4 l xs)->(?B4 b zs)->(xs.length+zs.length<=sizeLine)->(∀p,?X->Q ?aZ (?B3 p (xs++zs)))->?vS
noncomputable def ND[?f]:R2:=?BQ ?vS
theorem NR:?CU ND X.K:=by
 ext e3;obtain⟨l,b,xs,zs,rfl,rfl,hl,hb,hz,q⟩:=h;cases rx;cases ry;obtain⟨its,r1,p1,_⟩:=?aC hl;obtain⟨its2,r2,p2,_⟩:=?aC hb;obtain⟨⟨cls,dd,data,sl⟩,n,ho,hc,hdd,hd⟩:=id p1;obtain⟨⟨Ap2,dd2,data2,sl2⟩,n2,ho2,hc2,hdd2,hd2⟩:=id p2;ext A2
 refine ?sR ?nI ?yQ noFill_list_add seq_list_add PySem.F.slot_list_add PySem.F.entry_list_add (PySem.F.args_list_add_2 _ _)
  (list_addW l b ?L its2.toArray n n2 dd dd2 sl sl2 (by rw[qc3,qc3,←r1.length,←r2.length];exact hz)) ⟨ho,ho2,?_⟩
 rw[show its.toArray++its2.toArray=(its++its2).toArray by simp];exact⟨?dZ,_,I.lnew (t':=s.toks) (r1.append r2) (by rw[qb1];exact hz),rfl,?rH⟩
theorem mD[?k1]:?D6 "all" (fun xs H Q=>∃(p:Addr) (bs:?n Bool),?vR/\SqL X.K H p (bs.map V.bl)/\?B5 (bs.all id)):=by
 intro Af s σ H xs us Q I r h;obtain⟨p,bs,rfl,hq,q⟩:=h;obtain⟨u,rfl,ru⟩:=Vf r;cases ru;obtain⟨its,rv,pl,hz⟩:=?cL;have hh:X.A.handled=none:=I.ok.hd hc
 have rel:∀(i:Nat) (v:Value),its.toArray[i]?=?aI->∃b,?h8=?c b/\v=?bP b:=fun i v e=>by
  have e':its[i]?=?aI:=?eF
  have hlt:i<its.length:=(?cQ e').1;have l1:=rv.length;rw[qa2]at l1;have hb:?h8=?c (bs[i]' ?cZ):=?a2
  obtain⟨u,hu,ru⟩:=?hE (i:=i) (x:=V.bl (bs[i]' ?cZ)) (by rw[qa8,hb];rfl);rw[e']at hu;cases hu;exact⟨_,hb,ru⟩
 refine call_all_walk (qt3 ?xK ?_);refine⟨?w,[s.heap.objs.size,p],[s.heap.objs.size],?sT,_,_,?t5,rfl,Walks.list (show X.A.in1.handled=none from hh) ?w p ?_ ?L,⟨⟨_,?eP,rfl,rfl⟩,?_⟩,?_,fun h' tk k=>?_⟩
 . obtain⟨o,_,ho,_⟩:=pl;exact qc9 (qb3 ho)
 . exact pl.isList.at fun o e=>?gO
 . intro i v s' Q' E' hv hQ;obtain⟨b,hb,rfl⟩:=rel i v hv;dsimp only at hQ;rw[hb]at hQ;exact qj8 hQ
 . have e:(?bJ ?sT).all (?t5)=bs.all id:=by
    have l1:=rv.length;rw[qa2]at l1;rw[qc3,←l1];rw[qm7,qe9,qe9];constructor
    . intro hx b hb;obtain⟨i,hi⟩:=qh7 hb;have:=hx i (qe0.mpr ?gW);rw[hi]at this;exact this
    . intro hx i hi;have hlt:=?uL;have hb:?h8=?c bs[i]:=?Q
      rw[hb];exact hx _ (qd3 _)
   rw[e];have I1:Bp X Af σ H { s with heap:=h',toks:=tk }:=I.kept (fun b o e=>k b o (by simp;exact ?rA) (?gO));exact⟨.bl (bs.all id),H,I1,rfl,q⟩
universe e9
structure Has[?jV][?f][?jK](x:Str)[?jO]:Prop where
 ex:∃(f:Addr) (fd:FuncData),mg x=?c ?oM/\?gM/\?hD
section
variable{X:Cx}[?zY][?aQ]{t:TA}
theorem An(h:?CX Has x)(hr:?n7)[?pG](hg:Gl X x:=by rfl)[?jW][?p2]
 [?zC] (hpl:?gA (·.1)=false:=by rfl):PE X (?BF x ?aX) (tCall sp [] E0 t):=by
 obtain⟨f,fd,h1,h2,h3,h4⟩:=h.ex;exact RX h4 ?eY hg h1 h2 h3 ?T DS ha hdb he hpl
universe e9
theorem boot_intT:?CD ?bA ?bA:=?W
theorem Zr:?CD ?dM ?dM:=?W
theorem Jg:?Y ?d8=?c (?fE):=?W
theorem Db:?Y ?c7=?c (?bC):=?W
theorem Oe:?CD ?mT ?mT:=?W
theorem AU:?CW "max" "max":=?W
theorem ME:?CW "min" "min":=?W
theorem Qe:?CW "all" "all":=?W
theorem Cc:?CW ?hS ?hS:=?W
universe L2
namespace L2
open PySem PySem.Spec PyProof.Rows
section
variable{X:Cx}[?l]{tg l:Expr}{tl:TE}{n:Nat}
theorem F0.imp{X:Cx}{f:Value}{r r':?cH}(h:F0 X f r)(i:∀xs H Q,r' xs H Q->r xs H Q):F0 X f r':=fun Af s σ H xs us Q I v q=>h Af s σ H xs us Q I v (i xs H Q q)
inductive QA[?f][?c0][?J]:Prop
 | mk:?D7 (Q (?d ?nQ) H) ?t6
noncomputable def Ag1[?f]:?cH:=?BU ?t6
inductive FF[?f][?c0][?J]:Prop
 | mk:?D7 (∀l,?iY->Q (?iC) (?B3 l ys)) ?pY
noncomputable def rF[?f]:?cH:=?BU ?pY
inductive JT[?f][?c0][?J]:Prop
 | mk:∀p ys,?gK->(((?o2/\∀l,?iY->Q (?iC) (?BJ l ys))\/(?mZ/\Q ?aZ H)))->?t9
noncomputable def WU[?f]:?cH:=?BU ?t9
inductive fG[?f][?c0][?J]:Prop
 | mk:∀x n d,(xs=[x,.ty n])->((?oJ))->?d5->(?B5 (JD n d))->?yT
noncomputable def RG[?f]:?cH:=?BU ?yT
inductive QC[?f][?c0][?J]:Prop
 | mk:∀(p:Addr) (bs:?n Bool),?gK->(?B4 p (bs.map V.bl))->(?B5 (bs.all id))->?tT
noncomputable def Ag5[?f]:?cH:=?BU ?tT
theorem Po[?q]:?CU uR K:=by subst hK;exact RZ
theorem Ij[?q]:?CU ND K:=by subst hK;exact NR
theorem M3[?q]:SlR X (UQ K):=by subst hK;exact QX
theorem E3[?q]:SlR X (Af9 K):=by subst hK;exact qY
theorem Ba[?q]:IxR X (Ag2 K):=by subst hK;exact tF
theorem Bi[?q]:IxR X (WV K):=by subst hK;exact YC
theorem Ax[?q]:?D6 "len" (Ag1 K):=?CP CP
theorem D5[?q]:F0 X (?bC) (rF K):=?CP cP
theorem Hf[?q]:F0 X (?fE) (WU K):=by subst hK;exact(m9).imp fun _ _ _ z=>by obtain⟨p,ys,a,b⟩:=z;exact⟨p,ys,a,b⟩
theorem Dv[?q]:?D6 ?hS (RG K):=by subst hK;exact(EX).imp fun _ _ _ z=>by obtain⟨x,n,d,a,b,c,e⟩:=z;exact⟨x,n,d,a,b,c,e⟩
theorem N4[?k1][?q]:?D6 "all" (Ag5 K):=by subst hK;exact(mD hc).imp fun _ _ _ z=>by obtain⟨p,bs,a,b,c⟩:=z;exact⟨p,bs,a,b,c⟩
theorem sZ[?bV][?q]:OpR X ?xX (RI K n ?b7):=?AU XD hu
theorem K4[?bV][?q]:?C8 K:=?AU KR hu
theorem JC[?bV][?q]:OpR X ?sY (Ag3 K n):=?AU xE hu
theorem lD[?bV][?q]:MtR X ?wK (NC K n):=?AU OC hu
theorem B5(hl:?v0)[?q]:PI X tg l (VG K tl):=?AU rQ hl
theorem Ta(hl:?v0)[?q]:PI X tg l (Aj7 K tl):=?AU WZ hl
variable{o e:Expr}[?aQ]{to:TE}{t:TA}{name:Str}{apos cpos:Pos}{T id:String}{r:?eN}
theorem G9(pa:PlainAttrs T)(slot:Slot T ?d9 id)(hty:typeOf (?a7 id)=?O (?P "method_descriptor"))(hm:MtR X id r)(ho:PE X o to)[?pG][?q]
 (hbase:?xD o ?d9 ?h (?hI)=?hI:=by rfl)
 (hfew:((?eG cpos (?n8)).all (fun x=>!x.1)&&(?n2 cpos (keywordEach [] ?h)).all (fun x=>x.1.isSome)
   && ?t ((e::es).length+([]:?y1).length+(if ([]:?y1).isEmpty then 0 else 1)<30))=true:=by rfl)
 (hline:(apos.endLine==cpos.line)=true:=by rfl) (hs:?nR:=by rfl) (hplain:(?eG cpos (?kE)).any (·.1)=false:=by rfl) :
 PE X (?a5 (?aR o ?d9 apos) ?aX [] cpos) (tBM K T r to t):=by subst hK;exact Ag9 pa slot hty hm ho ha hbase hfew hline hs hplain
theorem Eo[?aQ]{k:Nat}{t:QN}{n:Nat}{pos:Pos}[?k1](h:PGs X es t)[?q]
 (hn:(?y6).length=n:=by rfl) (hst:(?y6).findIdx? (·.1)=none:=by rfl):PG X (.Tuple es k pos) (An2 K n t):=by subst hK;exact xA hc h hn hst
universe e9
universe L2
namespace Hb
noncomputable def Ay[?aA](fam:Int):Am :=
 if ?fL then(if w.length<2 then [] else(?bJ w.length).map fun i=>w.take i++?mB ?E)
 else if ?u5 then []
 else if ?b9 then(if ?vN then [[],[]] else w.map fun l=>[l])
 else ?mB 1::((?bJ (?l7)).map fun i=>w.take i++[(w.getD i 0+w.getD ?E 0)%fam]++?mB (i+2))++[w.take (?l7)]
noncomputable def Fj(fam:Int)[?aA]:Prop :=
 (?fL/\1<=w.length/\w.length<=4)\/(?b9/\(?u5\/?vN\/?xY))\/(?d2/\w.length<=3)
noncomputable def lv(fam:Int)[?aA]:Nat:=if ?fL then ?l7 else if ?b9 then(if ?xY then 2 else w.length) else w.length
theorem Q7[?cY][?cW](h:?y) :
 (?fL/\((∃a,w=[a])\/(∃a b,w=?a0)\/(?nP)\/∃a b c d,w=?m3)) ∨
 (?b9/\(w=[]\/(∃a,w=[a])\/?nP)) ∨
 (?d2/\(w=[]\/(∃a,w=[a])\/(∃a b,w=?a0)\/?nP)):=by
 rcases h with⟨h0,h1,h2⟩|⟨h0,h1⟩|⟨h0,h1⟩
 . left;refine ?kU
   match w,h1,h2 with
   | [a],_,_=>exact ?C2 a rfl
   | ?a0,_,_=>exact ?e (?i ⟨a,b,rfl⟩)
   | ?cI,_,_=>exact ?e (?e (?i ?mJ))
   | ?m3,_,_=>exact ?e (?e (?e ⟨a,b,c,d,rfl⟩))
   | _::?o4,_,h=>simp at h
 . right;left;refine ?kU
   match w,h1 with
   | [],_=>exact ?bG
   | [a],_=>exact ?e (?C2 a rfl)
   | ?a0,h=>simp at h
   | ?cI,_=>exact ?e (?e ?mJ)
   | ?o4,h=>simp at h
 . right;right;refine ?kU
   match w,h1 with
   | [],_=>exact ?bG
   | [a],_=>exact ?e (?C2 a rfl)
   | ?a0,_=>exact ?e (?e (?i ⟨a,b,rfl⟩))
   | ?cI,_=>exact ?e (?e (?e ?mJ))
   | ?o4,h=>simp at h
theorem Ao0(a:Int):Ay [a] 0=[]:=rfl
theorem An9(a b:Int):Ay ?a0 0=[[b],[a]]:=rfl
theorem YZ(a b c:Int):Ay ?cI 0=[[b,c],[a,c],?a0]:=rfl
theorem yZ(a b c d:Int):Ay ?m3 0=[[b,c,d],[a,c,d],[a,b,d],?cI]:=rfl
section
variable[?cY]
theorem An8(h:?b9):?CJ []=[]:=?pN
theorem oZ(h:?b9)(a:Int):?CJ [a]=[[],[]]:=by unfold Ay;rw[?cG,?eA,?gU,?m2]
theorem yX(h:?b9)(a b c:Int):?uX=[[a],[b],[c]]:=by unfold Ay;rw[?cG,?eA,?gU,?eA];rfl
theorem An6(h:?d2):?CJ []=[]:=?pN
theorem oY(h:?d2)(a:Int):?CJ [a]=[[],[]]:=?lO
theorem CD(h:?d2)(a b:Int):?CJ ?a0=[[b],[?w2],[a]]:=?lO
theorem YW(h:?d2)(a b c:Int):?uX=[[b,c],[?w2,c],[a,(b+c)%fam],?a0]:=?lO
theorem Oc{w f:?m}(h:?y)(hf:f∈?a1):Fj fam f/\lv fam f+1=?dN:=by
 ext oS
 . subst h0;rw[Ao0]at hf;exact ?mM
 . subst h0;rw[An9]at hf;ext e4;rcases hf with rfl | rfl<;>simp[Fj,lv]
 . subst h0;rw[YZ]at hf;ext e4;rcases hf with rfl | rfl | rfl<;>simp[Fj,lv]
 . subst h0;rw[yZ]at hf;ext e4;rcases hf with rfl | rfl | rfl | rfl<;>simp[Fj,lv]
 . rw[An8 h0]at hf;exact ?mM
 . rw[?fI]at hf;ext zX;ext cU
   simp[Fj,lv,h0,e]
 . rw[yX h0]at hf;ext cU
   ext e4;rcases hf with rfl | rfl | rfl<;>simp[Fj,lv,h0,e]
 . rw[An6 h0]at hf;exact ?mM
 . rw[?fC]at hf;ext cU
   ext g3
   ext zX;simp[Fj,lv,h0,e,e']
 . rw[?b1]at hf;ext cU
   ext g3
   ext e4;rcases hf with rfl | rfl | rfl<;>simp[Fj,lv,h0,e,e']
 . rw[YW h0]at hf;ext cU
   ext g3
   ext e4;rcases hf with rfl | rfl | rfl | rfl<;>simp[Fj,lv,h0,e,e']
theorem Ki[?cW](h:?y):?xG=(if ?iF then 0 else ?dN+1)/\?dN<=3:=by
 ext oS
 . subst h0;simp[Ao0,lv]
 . subst h0;simp[An9,lv]
 . subst h0;simp[YZ,lv]
 . subst h0;simp[yZ,lv]
 all_goals ext cU
 . simp[An8 h0,lv,e,h0]
 . simp[?fI,lv,e,h0]
 . simp[yX h0,lv,e,h0]
 all_goals ext g3
 . simp[An6 h0,lv,e,e']
 . simp[?fC,lv,e,e']
 . simp[?b1,lv,e,e']
 . simp[YW h0,lv,e,e']
theorem faces_agree{w f g:?m}{i j:Nat}(h:?y)(hl:2<=?dN)(hij:i<j)(hf:?dP[j]?=?c f)(hg:?CH ?dP g):(?wB)[i]?=(?CJ g)[j-1]?:=by
 have hj:j<?xG:=(?cQ hf).1;ext oS
 . subst h0;simp[lv]at hl
 . subst h0;simp[lv]at hl
 . subst h0;rw[YZ]at hf hg hj;ext oX
   ext oY
   . ext s;rfl
   . ext s;rfl
   . ext s;rfl
 . subst h0;rw[yZ]at hf hg hj;ext z0
   ext z2
   . ext s;rfl
   . ext s;rfl
   . ext s;rfl
   . ext s;rfl
   . ext s;rfl
   . ext s;rfl
 all_goals ext cU
 . simp[lv,e,h0]at hl
 . simp[lv,e,h0]at hl
 . rw[yX h0]at hf hg hj;ext oX
   ext oY
   . ext s;simp[?fI]
   . ext s;simp[?fI]
   . ext s;simp[?fI]
 all_goals ext g3
 . simp[lv,e,e']at hl
 . simp[lv,e,e']at hl
 . rw[?b1]at hf hg hj;ext oX
   ext oY
   . ext s;simp[?fC]
   . ext s;simp[?fC]
   . ext s;simp[?fC]
 . rw[YW h0]at hf hg hj;ext z0
   ext z2
   . ext s;simp[?b1]
   . ext s;simp[?b1]
   . ext s;simp[?b1]
   . skip
     ext s;simp only[?b1,List.getElem?_cons_succ,qs8,Nat.add_one_sub_one]
     congr 2
     rw[Int.add_emod_emod,Int.emod_add_emod,Int.add_assoc]
   . ext s;simp[?b1]
   . ext s;simp[?b1]
universe e9
noncomputable def lev[?g5]:Nat:=p.length-1
structure QG(xs:Am)[?g5]:Prop where
 cnt:p.length=0\/p.length=2\/p.length=3\/p.length=4
 low:∀f∈p,0<=f
 bel:∀f∈p,∃q,?y7/\lev q+1=lev p
 agr:3<=p.length->∀(i j:Nat) (f g:Int) (q r:?m),i<j->p[j]?=?c f->?CH p g->?y7->xs[g.toNat]?=?c r->q[i]?=r[j-1]?
noncomputable def Cg(xs:Am):Prop:=∀(k:Nat) [?g5],xs[k]?=?c p->QG (xs.take k) p
noncomputable def JS(fam:Int)(ws:Am):Prop:=∀(k:Nat) [?aA],?vE->?y/\∀f∈?a1,f∈ws.take k
theorem JS.nil[?cY]:JS fam []:=fun k w h=>?kG
theorem JS.snoc[?cY]{ws:Am}[?cW][?k3](hw:?y)(hf:?kW):JS fam (?mP):=by
 intro k v hk;by_cases hlt:k<ws.length
 . rw[qb8 hlt]at hk;rw[qk2 ?Z];exact h k v hk
 . have hk':k<(?mP).length:=(?cQ hk).1;have e:k=ws.length:=by simp at hk';omega
   subst e;simp at hk;subst hk;rw[qk2 (?a4),qd2];exact⟨hw,hf⟩
theorem JS.mem[?cY]{ws:Am}[?k3][?cW](hw:w∈ws):?y/\?kW:=by
 obtain⟨k,hk⟩:=qh7 hw;obtain⟨h1,h2⟩:=h k w hk;exact⟨h1,fun f hf=>qn2 (?i9)⟩
noncomputable def Fb(ws:Am):Am->Am
 | []=>ws
 | ?cK=>Fb (?mD) r
theorem Z0:∀(rows ws:Am),(?eV).length<=ws.length+rows.length
 | [],ws=>by simp[Fb]
 | ?cK,ws=>by
   have h1:=Z0 r (?mD)
   have h2:(?mD).length<=ws.length+1:=by
    split
    . omega
    . simp
   simp only[Fb,qc5];omega
theorem Zz[?cY]:∀(rows ws:Am),?sE->(∀(k:Nat) [?aA],rows[k]?=?f8->?y/\∀f∈?a1,?dS\/f∈rows.take k)->JS fam (?eV)
 | [],ws,h,_=>h
 | ?cK,ws,h,hr=>by
   have h0:=hr 0 w rfl;have hw:?kW:=fun f hf=>(h0.2 f hf).resolve_right ?o;simp only[Fb];refine Zz r _ ?_ fun k v hk=>?_
   . split
     . exact h
     . exact h.snoc h0.1 hw
   . obtain⟨h1,h2⟩:=hr (k+1) v (?m8);refine ?tL;rcases ?i9 with z | z
     . left;split
       . exact z
       . exact qn3 _ z
     . rw[List.take_succ_cons]at z;rcases ?f7 z with z | z
       . left;subst z;split
         . assumption
         . simp
       . exact ?e z
noncomputable def Dc(ws:Am):?o0
 | acc,[]=>acc
 | acc,f::r=>Dc ws (?mO) r
theorem Zx{ws:Am}[?e6]:∀[?g7],?m6->?fH\/x∈fs
 | [],acc,h=>?i h
 | f::r,acc,h=>by
   rcases Zx r _ h with z | z
   . split at z
     . rcases qj5.mp z with z | z
       . exact ?bD
       . exact ?e (by simp at z;simp[z])
     . exact ?bD
   . exact ?e (qd0 _ z)
theorem Pz{ws:Am}[?e6]:∀[?g7],?fH->?m6
 | [],acc,h=>h
 | f::r,acc,h=>Pz r _ (by split;exact qn3 _ h;exact h)
theorem Zy{ws:Am}[?e6]:∀[?g7],x∈fs->?k6\/?m6
 | f::r,acc,h=>by
   ext jM
   . subst e;by_cases h1:?k6
     . exact ?i h1
     . right;refine Pz r _ ?_;by_cases h2:?fH
       . rw[?I (by simp[h2])];exact h2
       . rw[?D ?vH];simp
   . exact Zy r _ e
theorem R9{ws:Am}:∀[?g7],?BV ?fJ fs.length
 | [],acc=>by simp[Dc]
 | f::r,acc=>by
   have h1:=R9 (ws:=ws) r (?mO)
   have h2:?BV ?mO 1:=by
    split
    . simp
    . omega
   simp only[Dc,qc5];omega
noncomputable def below[?k2]:?o0
 | acc,[]=>acc
 | acc,?cK=>?CA (Dc ws acc ?dP) r
theorem Qh[?bY][?e6]:∀(l acc:Am),?kX->?fH\/∃w∈l,x∈?a1
 | [],acc,h=>?i h
 | ?cK,acc,h=>by
   rcases Qh r _ h with z|⟨v,hv,z⟩
   . rcases Zx _ _ z with z | z
     . exact ?bD
     . exact ?e ⟨w,qe3,z⟩
   . exact ?e ⟨v,?xB,z⟩
theorem Zt[?bY][?e6]:∀(l acc:Am),?fH->?kX
 | [],acc,h=>h
 | ?cK,acc,h=>Zt r _ (Pz _ _ h)
theorem AY[?bY]{x w:?m}:∀(l acc:Am),w∈l->x∈?a1->?k6\/?kX
 | v::r,acc,h,hx=>by
   ext jM
   . subst e;rcases Zy (ws:=ws) _ acc hx with z | z
     . exact ?bD
     . exact ?e (Zt r _ z)
   . exact AY r _ e hx
theorem Na[?bY]:∀(l acc:Am),(∀w∈l,?y)->?BV ?nU ?wM
 | [],acc,_=>by simp[below]
 | ?cK,acc,h=>by
   have h1:=Na (ws:=ws) r (Dc ws acc ?dP) fun v hv=>h v (?xB);have h2:=R9 (ws:=ws) ?dP acc;have h3:=Ki (h w qe3);simp only[below,qc5];split at h3<;>omega
theorem V4(ws:Am)(f:?m):∀[?g7],Dc ws acc (fs++[f])=(if ?rX/\f ∉ ?fJ then ?fJ++[f] else ?fJ)
 | [],acc=>rfl
 | g::fs,acc=>V4 ws f fs _
theorem Zs[?k2][?aA]:∀(l acc:Am),?CA acc (l++[w])=Dc ws (?nU) ?dP
 | [],acc=>rfl
 | v::l,acc=>Zs ws fam w l _
theorem V5[?aA]:∀(rows ws:Am),Fb ws (rows++[w])=(if w∈?eV then ?eV else ?eV++[w])
 | [],ws=>rfl
 | v::rows,ws=>V5 w rows _
noncomputable def N2[?k2]:Nat->?o0
 | 0,layer,rows=>rows
 | n+1,layer,rows=>N2 ws fam n (?CA [] layer) (layer++rows)
theorem AI[?bY]:∀(n:Nat) (layer rows:Am),(∀w∈layer,?y/\?dN<n) →
 (∀(k:Nat) [?aA],rows[k]?=?f8->?y/\∀f∈?a1,?dS\/f∈layer\/f∈rows.take k) →
 ∀(k:Nat) [?aA],(?xQ)[k]?=?f8->?y/\∀f∈?a1,?dS\/f∈(?xQ).take k
 | 0,layer,rows,hl,hr,k,w,hk=>by
   obtain⟨h1,h2⟩:=hr k w hk;ext zI
   . exact ?bD
   . exact ?N (hl f z).2 O9m
   . exact ?e z
 | n+1,layer,rows,hl,hr,k,w,hk=>by
   refine AI n _ _ ?_ ?_ k w hk
   . intro v hv;rcases ?s4 with z|⟨u,hu,z⟩
     . exact ?oI
     . obtain⟨q1,q2⟩:=hl u hu;obtain⟨q3,q4⟩:=Oc q1 z;exact⟨q3,O9m⟩
   . intro m v hm;by_cases hlt:m<layer.length
     . rw[qb8 hlt]at hm;have hv:v∈layer:=qb6 hm;refine⟨(hl v hv).1,?s6⟩;rcases AY (ws:=ws) layer [] hv hf with z | z
       . exact ?bD
       . exact ?e (?bD)
     . rw[qc4 ?Z]at hm;obtain⟨h1,h2⟩:=hr _ v hm;ext zI
       . exact ?bD
       . right;right;rw[List.take_append];refine qn3 _ ?_;rw[qm6 ?Z];exact z
       . right;right;rw[List.take_append];exact qg1 _ z
noncomputable def P3(ws:Am)[?aA](fam:Int):Am:=Fb ws (?rK)
theorem Z8{ws:Am}[?cW][?cY][?k3](hw:?y):JS fam (?q7):=by
 refine Zz _ _ h (AI 4 [w] [] ?_ ?_)
 . intro v hv;have e:v=w:=?o8
   subst e;exact⟨hw,by have:=(Ki hw).2;omega⟩
 . intro k v hk;simp at hk
noncomputable def bZ(ws:Am)(f:?m):Nat:=?kC (·==f)
theorem tG{ws:Am}{f:?m}(h:?dS):ws[?eD]?=?c f:=by
 unfold bZ;have hl:?kC (·==f)<ws.length:=List.findIdx_lt_length_of_exists ?w8;rw[qa0 hl];have:=List.findIdx_getElem (xs:=ws) (p:=(·==f)) (w:=hl);ext aP
theorem yF{ws:Am}{f:?m}{k:Nat}(h:f∈ws.take k):?eD<k:=by
 unfold bZ;obtain⟨i,hi⟩:=qh7 h;have hlt:i<(ws.take k).length:=?gW;rw[qi7]at hi;split at hi
 . rename_i hik
   have hl:i<ws.length:=?gW
   have e:ws[i]=f:=by
    rw[qa0 hl]at hi;exact qe1 hi
   have hle:?kC (·==f)<=i:=by
    apply qh1;intro hgt;have:=List.not_of_lt_findIdx hgt;simp[e]at this
   omega
 . cases hi
noncomputable def Nj[?k2]:Am:=ws.map fun w=>?gQ ?lH
theorem DM[?bY]{k:Nat}[?cW](h:?vE):(?oP)[k]?=?c (?gQ ?lH):=by
 unfold Nj;rw[qa8,h];rfl
theorem b6[?bY][?k3]:Cg (?oP):=by
 intro k p hp;unfold Nj at hp;rw[qa8]at hp;cases hw:ws[k]? with
 | none=>rw[hw]at hp;cases hp
 | some w =>
   rw[hw]at hp;have EM:?gQ (?lH)=p:=by simpa using hp
   subst EM;obtain⟨h1,h2⟩:=h k w hw;obtain⟨n1,n2⟩:=Ki h1
   have look:∀f∈?a1,((?oP).take k)[((?eD:Nat):Int).toNat]?=?c ((?wB).map fun g=>(bZ ws g:Int)):=fun f hf=>by
    have hm:=?i9;have hlt:=yF hm;rw[qe4,qi7,?D hlt];exact DM (tG (qn2 hm))
   refine⟨?_,?_,?_,?_⟩
   . rw[qa2];by_cases hz:?iF
     . rw[?D hz]at n1;omega
     . rw[?mF]at n1;omega
   . intro f hf;obtain⟨g,_,rfl⟩:=?wZ;omega
   . intro f hf;obtain⟨g,hg,rfl⟩:=?wZ;refine⟨_,look g hg,?_⟩;obtain⟨w1,l1⟩:=Oc h1 hg;obtain⟨m1,_⟩:=Ki w1;unfold lev;rw[qa2,qa2];have hz:¬?iF:=O9m
     rw[?mF]at n1;by_cases hy:lv fam g=0
     . rw[?D hy]at m1;omega
     . rw[?I hy]at m1;omega
   . intro hl i j f g q r hij hf hg hq hr;rw[qa2]at hl;rw[qa8]at hf hg;cases ef:(Ay w fam)[j]? with
     | none=>rw[ef]at hf;cases hf
     | some F =>
       cases eg:(Ay w fam)[i]? with
       | none=>rw[eg]at hg;cases hg
       | some G =>
         rw[ef]at hf;rw[eg]at hg;have ef':((bZ ws F:Nat):Int)=f:=by simpa using hf
         have eg':((bZ ws G:Nat):Int)=g:=by simpa using hg
         subst ef' eg';rw[look F (qb6 ef)]at hq;rw[look G (qb6 eg)]at hr;cases hq;cases hr;have hz:¬?iF:=by intro z;rw[?D z]at n1;omega
         rw[?mF]at n1;rw[qa8,qa8,faces_agree h1 ?Z hij ef eg]
theorem gO[?bY][?cW](hw:?y):(?rK).length<=85:=by
 have step:∀l:Am,(∀v∈l,?l9)->(?qL).length<=?wM/\∀v∈?qL,?l9:=fun l hl=>by
  refine⟨by have:=Na (ws:=ws) l [] hl;ext aP,fun v hv=>?_⟩;rcases ?s4 with z|⟨u,hu,z⟩
  . exact ?oI
  . exact(Oc (hl u hu) z).1
 have s0:∀v∈[w],?l9:=fun v hv=>by
  have e:v=w:=?o8
  subst e;exact hw
 obtain⟨a1,b1⟩:=step _ s0;obtain⟨a2,b2⟩:=step _ b1;obtain⟨a3,b3⟩:=step _ b2;simp only[N2,qb1,qh2,qc5]at a1 a2 a3 ⊢;omega
section
variable{xs:Am}
universe e9
universe Hb
namespace L2
inductive Er{A0:Type}(p:A0->Prop):Prop
 | mk (x0:A0) (h:p x0):Er p
inductive Jj{A0 A1:Type}(p:?B9 A0 A1):Prop
 | mk (x0:A0) (x1:A1) (h:p x0 x1):Jj p
inductive Og{A0 A1 A2:Type}(p:A0->?B9 A1 A2):Prop
 | mk [?jS] (h:p x0 x1 x2):Og p
inductive V6{A0 A1 A2 A3:Type}(p:A0->A1->?B9 A2 A3):Prop
 | mk [?jS] (x3:A3) (h:p x0 x1 x2 x3):V6 p
inductive bB{A0 A1 A2 A3 A4:Type}(p:A0->A1->A2->?B9 A3 A4):Prop
 | mk [?jS] (x3:A3) (x4:A4) (h:p x0 x1 x2 x3 x4):bB p
inductive UG{A0 A1 A2 A3 A4 A5:Type}(p:A0->A1->A2->A3->?B9 A4 A5):Prop
 | mk [?jS] (x3:A3) (x4:A4) (x5:A5) (h:p x0 x1 x2 x3 x4 x5):UG p
inductive zN{A0 A1 A2 A3 A4 A5 A6:Type}(p:A0->A1->A2->A3->A4->?B9 A5 A6):Prop
 | mk [?bS] (h:p x0 x1 x2 x3 x4 x5 x6):zN p
inductive mO{A0 A1 A2 A3 A4 A5 A6 A7:Type}(p:A0->A1->A2->A3->A4->A5->?B9 A6 A7):Prop
 | mk [?bS] (x7:A7) (h:p x0 x1 x2 x3 x4 x5 x6 x7):mO p
inductive Ex9{A0 A1 A2 A3 A4 A5 A6 A7 A8:Type}(p:A0->A1->A2->A3->A4->A5->A6->?B9 A7 A8):Prop
 | mk [?bS] (x7:A7) (x8:A8) (h:p x0 x1 x2 x3 x4 x5 x6 x7 x8):Ex9 p
inductive mJ{A0 A1 A2 A3 A4 A5 A6 A7 A8 A9:Type}(p:A0->A1->A2->A3->A4->A5->A6->A7->?B9 A8 A9):Prop
 | mk [?bS] (x7:A7) (x8:A8) (x9:A9) (h:p x0 x1 x2 x3 x4 x5 x6 x7 x8 x9):mJ p
inductive fJ{A0 A1 A2 A3 A4 A5 A6 A7 A8 A9 JY:Type}(p:A0->A1->A2->A3->A4->A5->A6->A7->A8->?B9 A9 JY):Prop
 | mk [?bS] [?jL] (h:p x0 x1 x2 x3 x4 x5 x6 x7 x8 x9 Q6):fJ p
inductive uH{A0 A1 A2 A3 A4 A5 A6 A7 A8 A9 JY wB:Type}(p:A0->A1->A2->A3->A4->A5->A6->A7->A8->A9->?B9 JY wB):Prop
 | mk [?bS] [?jL] (x11:wB) (h:p x0 x1 x2 x3 x4 x5 x6 x7 x8 x9 Q6 x11):uH p
inductive ZN{A0 A1 A2 A3 A4 A5 A6 A7 A8 A9 JY wB A12:Type}(p:A0->A1->A2->A3->A4->A5->A6->A7->A8->A9->JY->?B9 wB A12):Prop
 | mk [?bS] [?jL] (x11:wB) (x12:A12) (h:p x0 x1 x2 x3 x4 x5 x6 x7 x8 x9 Q6 x11 x12):ZN p
inductive Ar2{A0 A1 A2 A3 A4 A5 A6 A7 A8 A9 JY wB A12 A13 A14 A15 A16 A17 A18:Type}(p:A0->A1->A2->A3->A4->A5->A6->A7->A8->A9->JY->wB->A12->A13->A14->A15->A16->?B9 A17 A18):Prop
 | mk [?bS] [?jL] (x11:wB) (x12:A12) (x13:A13) (x14:A14) (x15:A15) (x16:A16) (x17:A17) (x18:A18) (h:p x0 x1 x2 x3 x4 x5 x6 x7 x8 x9 Q6 x11 x12 x13 x14 x15 x16 x17 x18):Ar2 p
inductive Fc(p0 p1 p2:Prop):Prop
 | mk [?jR]:Fc p0 p1 p2
inductive B6(p0 p1 p2 p3:Prop):Prop
 | mk [?jR] (h3:p3):B6 p0 p1 p2 p3
inductive Dn(p0 p1 p2 p3 p4:Prop):Prop
 | mk [?jR] (h3:p3) (h4:p4):Dn p0 p1 p2 p3 p4
inductive Hq(p0 p1 p2 p3 p4 p5:Prop):Prop
 | mk [?jR] (h3:p3) (h4:p4) (h5:p5):Hq p0 p1 p2 p3 p4 p5
inductive Mn(p0 p1 p2 p3 p4 p5 p6:Prop):Prop
 | mk [?cS]:Mn p0 p1 p2 p3 p4 p5 p6
inductive Ve(p0 p1 p2 p3 p4 p5 p6 p7:Prop):Prop
 | mk [?cS] (h7:p7):Ve p0 p1 p2 p3 p4 p5 p6 p7
inductive iF(p0 p1 p2 p3 p4 p5 p6 p7 p8:Prop):Prop
 | mk [?cS] (h7:p7) (h8:p8):iF p0 p1 p2 p3 p4 p5 p6 p7 p8
inductive jY(p0 p1 p2 p3 p4 p5 p6 p7 p8 p9:Prop):Prop
 | mk [?cS] (h7:p7) (h8:p8) (h9:p9):jY p0 p1 p2 p3 p4 p5 p6 p7 p8 p9
inductive WA(p0 p1 p2 p3 p4 p5 p6 p7 p8 p9 UT uT US:Prop):Prop
 | mk [?cS] [?p0]:WA p0 p1 p2 p3 p4 p5 p6 p7 p8 p9 UT uT US
inductive wA(p0 p1 p2 p3 p4 p5 p6 p7 p8 p9 UT uT US p13:Prop):Prop
 | mk [?cS] [?p0] (h13:p13):wA p0 p1 p2 p3 p4 p5 p6 p7 p8 p9 UT uT US p13
inductive VZ(p0 p1 p2 p3 p4 p5 p6 p7 p8 p9 UT uT US p13 p14 p15:Prop):Prop
 | mk [?cS] [?p0] (h13:p13) (h14:p14) (h15:p15):VZ p0 p1 p2 p3 p4 p5 p6 p7 p8 p9 UT uT US p13 p14 p15
universe L2
namespace Hb
open PySem L2
noncomputable def Zm[?bZ](k:Int):Int:=ns.getD ?i3 0
noncomputable abbrev LT[?f](H:Hp)(v:V)(xs:Am):Prop:=?AZ v (?g ?bR)
noncomputable abbrev TI[?f](H:Hp)(v:V)[?bZ]:Prop:=?AZ v (tI ns)
section
variable[?l]{H H':Hp}
theorem TI.sq{v:V}[?b6](h:?kB):∃a,?dI/\?uS:=by
 ext fZ;rw[Ei.mp r]at q;exact ?r3
theorem TI.mk{a:Addr}[?b6](h:?uS):TI K H ?bK ns:=?yU
theorem TI.same{v:V}[?b6](s:?C)(h:?kB):?tI:=?uP s h
theorem TI.t{v:V}[?b6](s:?fT)(h:?kB):?tI:=Rep.t s (oR ns) h
theorem Jf[?c0](k:Nat):Cf xs ?dO ?w4=xs.take k:=by
 unfold Cf;rw[HT.sIx_none,HT.sIx_nat,qw2,List.drop_zero,List.take_eq_take_iff];omega
theorem Hk[?c0](k:Nat):Cf xs ?w4 ?dO=?r7:=by
 unfold Cf;rw[HT.sIx_none,HT.sIx_nat];by_cases h:?qX
 . rw[?sJ h,qm6 (by rw[qg6];omega)]
 . rw[Nat.min_eq_right ?Z,List.drop_length,List.drop_of_length_le ?Z];simp
theorem KN{D:Addr}{ys:?j}{v:V}{d:L2.D}{ds:?hQ}(hD:H D=?BD ys)(r:?BR ys ds)(rv:?bH)(hi:imms (ds++[d])=true):?D0 (ds++[d]) :=
 (r.snoc rv).t (Tx.lst hD) hi
theorem Ka{D:Addr}{ys:?j}{v:V}{xs:Am}[?e6](hD:H D=?BD ys)(r:?BR ys ?bR)(rv:?CF x):?D0 ((xs++[x]).map tI):=by
 have e:(xs++[x]).map tI=?mS++[tI x]:=?Q
 have h:=Yu (xs++[x]);rw[e]at h ⊢;exact KN hD r rv h
noncomputable def SameX(B:Addr)(H H':Hp):Prop:=∀b o,b≠B->?uA
theorem SameX.refl(B:Addr)(H:Hp):?dQ B H H:=fun _ _ _ h=>h
theorem SameX.trans{B:Addr}{H H1 H2:Hp}[?k0](b:?dQ B H1 H2):?dQ B H H2:=fun c o n h=>b c o n (a c o n h)
theorem SameX.of[?pK](a:?f6):?pO:=fun c o _ h=>a c o h
theorem SameX.upd[?pK]{o:HO}[?k0]:?dQ B H (upd H1 B o):=fun c u n h=>by rw[Ak n];exact a c u n h
theorem SameX.t[?pK]{us:?j}[?k0](h:H B=?l8):Tx H H1 :=
 ⟨fun b xs e=>?qY,fun b o u e=>?qY⟩
theorem SameX.same{B:Addr}{H0 H H1:Hp}[?k0](s:?x4)(h:H0 B=none):?a6 H0 H1:=fun b o e=>a b o (Ar e h) (s b o e)
theorem Kj:∀ns:?m,deps ?d6=0
 | []=>rfl
 | ?g9=>by show max (dep (?bQ)) (deps ?d6)=0;rw[Kj ns];rfl
theorem Pw:∀xs:Am,deps ?bR<=1
 | []=>?f4
 | x::xs=>by
   have h1:=Pw xs;have h2:dep (tI x)=1:=by show deps (D9 x)+1=1;rw[Kj]
   show max (dep (tI x)) (deps ?bR)<=1;omega
theorem R8(f:?m):∀xs:Am,(?mS).any (fun e=>eqD e (tI f))=?t (f∈xs)
 | []=>rfl
 | x::xs=>by
   rw[qd5,qm2,R8 f xs,pB];by_cases h:x=f
   . subst h;simp
   . have h':¬f=x:=fun z=>h z.symm;simp[h,h']
theorem BY[?pD](hc:c)(h:A):?kN:=by rw[?D hc];exact h
theorem On[?pD](hc:¬c)(h:B):?kN:=by rw[?I hc];exact h
theorem neI{a b:Int}(h:¬a=b):?qH:=?nS
theorem eqI{a b:Int}(h:a=b):¬?qH:=?nS
theorem isI{a b:Int}(h:a=b):?t (?H a=?H b)=true:=?nS
theorem Cy{g:TG}[?cT][?l][?cV][?b4][?oZ]
 [?yY]
 [?fX]:?AO ?vC KH:=?B8 Kk
theorem Qd{g:TG}[?cT][?l][?cV][?b4][?zW]
 [?yY]
 [?fX]:?AO ?uI KH:=?B8 pN
theorem Fp{g:TG}[?cT]{lo:Int}{n:Nat}[?b4]
 (hs:?BO ?u9)
 [?AH]:?AO ?uB KH:=Zh Pv h0 (fun i ys τ H e p=>hs i ys τ H e p) hd
theorem Aq[?p3][?p7][?z8]:?hH:=h hu
theorem qw7[?p3][?z8][?p7]:?hH:=h hu
theorem D7[?p3][?p7](h:(?sN)->?hH):?hH:=h hu
theorem GW{f:?m}:∀{ws:Am},?dS->?BM ?c ?eD:=fun {ws} h=>by
 have e:?BM ws.findIdx? ?wI:=by
  rw[List.findIdx?_map]
  congr 1
  funext w
  show eqD (tI w) (tI f)=(w==f)
  rw[pB];by_cases z:w=f
  . subst z;simp
  . simp[z]
 rw[e,List.findIdx?_eq_some_of_exists (xs:=ws) (p:=?wI) ?w8];rfl
theorem small{n:Nat}(h:?xV):n<sizeLine:=qc0 h ?c1
theorem Bs{n:Nat}(h:?xV):?mU:=qd4 (small h)
universe e9
section
variable[?f]
noncomputable def fU:Sp:=fun vs H Q _=>Og fun ?cC ?nB ?iZ=>Dn (vs=[?S,?d k]) (?f0) (0<=k) (ns.length<=63) (Q (?d (Zm ns k)) H)
noncomputable def dH:Sp:=fun vs H Q _=>Og fun ?c5 (w:?m) ?rS=>B6 (vs=[v,?lU]) (?CF w) (?y) (∀(p:Addr) (us:?j) (H':Hp),?X->?C->?qT->?p K H' us (?gQ tI)->?e9)
noncomputable def FT:Sp:=fun vs H Q _=>Og fun(c fam letters:Int)=>Dn (vs=[?d c,?lU,?d letters]) (0<letters) (letters<100) (fam<100) (∀(v:V) (H':Hp) [?aA],?C->TI K H' v w->?y->Q v H')
noncomputable def Z9:Sp:=fun vs H Q _=>UG fun(l:Addr) (us:?j) ?c5 (ws:Am) (w:?m) ?rS=>Mn (vs=[?iC,v,?lU]) (H l=?l8) (?BR us (ws.map tI)) (?CF w) (?y) (ws.length<=100) (∀(p:Addr) (us':?j) (H':Hp),?X->?C->H' p=?BD us'->?p K H' us' ((?q7).map tI)->?e9)
noncomputable def DG:Sp:=fun vs H Q _=>V6 fun ?cC ?nB (kind most:Int)=>Hq (vs=[?d kind,?S,?d most]) (?f0) (ns.length<=63) (0<=most) (most<=100) (∀(p:Addr) (us:?j) (H':Hp) (xs:Am),?X->?C->?qT->?p K H' us ?bR->Cg xs->?i5<=most->?e9)
universe e9
noncomputable def Km(d:L2.D):Bool:=JD ?bA d&&!JD ?dM d
noncomputable def belowD(d:L2.D)(b:Int):Bool:=match d with
 | ?x=>?x6&&?t (i<b)
 | _=>false
noncomputable def Dq(n:Nat):Int:=if ?lS > ?hJ-1 then 0 else ?hJ-1
noncomputable def Do(xs:Am)(d:L2.D)(l:Int):Bool:=match d with
 | ?x=>?x6&&?t (i<?i5)&&?t (Dq (?v5).length=l)
 | _=>false
noncomputable def Tu(xs:Am)[?g5](j i:Nat):Bool:=?t (?CN j i=?CN i (j-1))
noncomputable def Mj(xs:Am)[?g5]:Bool:=(?bJ p.length).all fun j=>(?bJ j).all fun i=>Tu xs p j i
noncomputable def uL:L2.D->Int
 | ?x=>i
 | _=>0
noncomputable def CN(n:Nat):Bool:=n==0 || n==2 || n==3 || n==4
noncomputable def Y7(xs:Am)(d:L2.D):Bool:=match d with
 | ?c2=>?tJ
 | _=>false
theorem Qc(xs:Am)(ds:?hQ):Y7 xs (?c2)=(?tJ):=rfl
theorem tW{n:Nat}(h:CN n=true):n<=4/\n≠1:=by
 unfold CN at h;simp only[qq6,qv7]at h;omega
section
variable[?f]
noncomputable def Jc:Sp:=fun vs H Q _=>Jj fun ?j5 ?iH=>Fc ?rR ?d5 (?B5 (Km d))
noncomputable abbrev Xe:Sp:=Jc K
noncomputable def Gu:Sp:=fun vs H Q _=>Og fun ?j5 ?iH (b:Int)=>Fc (vs=[x,?dT]) ?d5 (?B5 (belowD d b))
noncomputable def Lh:Sp:=fun vs H Q _=>Jj fun ?j5 (ds:?hQ)=>Fc ?rR (Ap7 K H x ds) (Q (?d (?oN)) H)
noncomputable def Fl:Sp:=fun vs H Q _=>bB fun ?cC ?j5 ?iH (l:Int) ?lX=>B6 (vs=[?S,x,?d l]) (?fN) ?d5 (?B5 (Do xs d l))
noncomputable def Ox:Sp:=fun vs H Q _=>V6 fun ?cC ?c5 ?lX (p:?m)=>Hq (vs=[?S,v]) (?fN) (?vM) (p.length<=4) ((∀f∈p,0<=f/\f<?i5/\(?j6 f.toNat []).length+1=p.length)) (?B5 (Mj xs p))
noncomputable def iQ:Sp:=fun vs H Q _=>V6 fun ?cC (th:V) ?iH ?lX=>B6 (vs=[?S,th]) (?fN) (?AZ th d) (∀H',?C->Q (.bl (Y7 xs d)) H')
noncomputable abbrev Sn:Sp:=fU K
noncomputable abbrev Lx:Sp:=dH K
noncomputable abbrev Sm:Sp:=FT K
noncomputable abbrev Oi:Sp:=Z9 K
noncomputable abbrev Qt:Sp:=DG K
universe e9
section
variable[?l]{H:Hp}
theorem FL{d:L2.D}(h:Km d=true):∃i,d=?x:=by
 cases d<;>simp[Km,JD]at h;exact ?i7
theorem LT.get{a:Addr}{xs:Am}{i:Int}(h:?fN)(h0:0<=i)(h1:i<?i5):∃us v,?hM/\V3 us i=?aI/\?CF (?v5):=by
 obtain⟨a',us,e,hq,r⟩:=h;cases e;obtain⟨j,rfl⟩:=qk3 h0;have hj:j<xs.length:=O9m
 have e:?bR[j]?=?c (tI xs[j]):=by rw[qa8,?kT];rfl
 obtain⟨v,hv,tv⟩:=?hK e;refine⟨us,v,hq,Bk hv,?_⟩;rw[qe4,qa4,?kT];exact tv
theorem LT.len{a:Addr}{xs:Am}(h:?fN):∃us,?hM/\us.length=xs.length:=by
 obtain⟨a',us,e,hq,r⟩:=h;cases e;exact⟨us,hq,?uV⟩
theorem TI.get{v:V}{p:?m}{i:Int}(h:?vM)(h0:0<=i)(h1:i<(p.length:Int)):∃a,?dI/\Ed K H a (p.map ?H)/\V3 (p.map ?H) i=?c (?d (?m0 i.toNat 0)):=by
 obtain⟨a,e,hq⟩:=h.sq;refine⟨a,e,hq,?_⟩;obtain⟨j,rfl⟩:=qk3 h0;have hj:j<p.length:=O9m
 refine Bk ?_;rw[qa8,?kT];simp[hj]
theorem BV(n:Nat):Dq n=((n-1:Nat):Int):=by unfold Dq;split<;>omega
theorem FD{xs:Am}{l:Int}:∀{ds:?hQ},ds.all (fun e=>Do xs e l)=true->ds=D9 (ds.map uL)
 | [],_=>rfl
 | ?bL,h=>by
   simp only[List.all_cons,qc8]at h;cases d with
   | int i =>
     show L2.D.int i::ds=L2.D.int i::D9 (ds.map uL);rw[←FD h.2]
   | _=>simp[Do]at h
universe e9
universe Hb
namespace L2
open PySem PySem.Spec PyProof.Rows
section
variable[?fV]{xc:Str}[?b5]{C c:Addr}[?e5]
universe e9
section
variable[?fV]{xc:Str}[?zO]
universe e9
section
variable{fs:?aD}{H H':Hp}{h B h' h2:Heap}
universe e9
noncomputable abbrev XJ:=?dR->OAddr->?cF
section
variable{X:Cx}{Af:Bl}{σ:St}{H H':Hp}{s s':Shared}{e:Addr}{cls a0:Value}{dx:OAddr}
universe e9
section
variable[?g4][?l][?AL]{N:?aL}{qual:Str}{scope:Scope}{f:Addr}{cd:Value}{A:Around}{outer:?n Env}[?e7]{H:Hp}{E:XK}
universe e9
section
variable{X:Cx}{J:XJ}[?zY][?aQ]{t:TA}
universe e9
universe L2
namespace L2
open PySem PySem.Spec PyProof.Rows PySem.W
section
variable{X:Cx}{Af pn:Bl}{σ:St}{H:Hp}[?e7]{J:XJ}
universe e9
section
variable{X:Cx}{th:Ends->XJ}
universe e9
section
variable[?jA]{h:Heap}{g:Array GenState}{d:Drawn}{t:Nat}{os:OsState}{a C:Addr}{o:Obj}{K:Frag}
universe e9
section
variable{X:Cx}{K:Frag}
universe e9
universe L2
namespace L2
open PySem PySem.Spec PyProof.Rows
noncomputable def Ite[?f](a:Addr):It :=
 ⟨fun i H=>∃xs x,?aN/\?aK,fun i H x H'=>∃p v,?X/\x=?gG/\H'=?BJ p [?x,v]/\∀xs,?aN->xs[i]?=?aI,fun i H=>∃xs,?aN/\?tH⟩
theorem KC[?g4][?l][?aQ][?jY](a e it:Addr)(hne:e≠it):Wp P w K ?hT (?d4) ?oL e (fun i h=>(∃old,IsEnum h e it (i:Int) old)/\?l0 it a i) where
 mem:=?Q
 obj:=fun i h st b hb=>by
  obtain⟨⟨old,h1⟩,o,h2,c,d⟩:=st;ext jJ
  . exact⟨_,h1,fun v z=>by cases (show Data.fields _=Data.cell v from z)⟩
  . ext p9
    subst z;exact⟨o,h2,fun v z=>by rw[d]at z;cases z⟩
 keep:=fun i h h' st k=>by
  ext jI;exact⟨⟨old,k e ?o _ h1⟩,h2.at fun o z=>k it ?o o z⟩
 item:=by
  ext j7;ext jI;obtain⟨xs,x,hq,hx⟩:=hg;obtain⟨its,rv,p,hz⟩:=?cL;obtain⟨u,hu,ru⟩:=?hE hx;have fe:=hf e ?o;have fi:=?yH;have lte:?CE e:=qb3 h1;ext zJ;refine wpAny_pyNext_enum_item h1 h2 ?G (x:=u) (by simpa using hu) hne fun h' hout yL htup hsz hk=>?_;refine⟨_,rfl,wpAny_letOwnedTupleGo_enum hout fun h3 hen Oo=>?_⟩
  replace Oo:?nD e h' h3:=Oo
  have kk:∀b o,b≠e->b≠it->?gP->?hG b=?r:=fun b o n1 n2 z=>(?aB b n1).trans (hk b o n1 n2 z);have tH:?BX ?y3 u:=(?aB _ (qk8 lte)).trans htup;have VH:?nY it a ?E:=yL.at fun o z=>(?aB it hne.symm).trans z;have bS:∀b,b ∉ ?oL->?x8:=fun b hb=>?fR
  have g7:∀b v,H b=?aI->?x8:=fun b v z=>⟨Ar z fe.1,Ar z fi.1⟩
  have S7:∀b v,H b=?aI->b≠s.heap.objs.size:=fun b v z=>Ar z ?gZ;refine⟨?dZ,?wV,?_,rfl,⟨?w,x,?gZ,rfl,rfl,fun ys hy=>by rw[?gT hy hq];exact hx⟩,⟨?tC,VH⟩,?eT⟩
  . refine Bp.step (s:=s) (h':=h3) (t':=s.toks+1) (H':=?wV) I (g':=s.gens) (d':=s.drawn) (ch:=?oL) (?eT) (fun b o _ _ hb z _=>?oG) (fun b o _ _ hb z _=>⟨?oD,?oG⟩) (fun b o hb z n=>?_) (fun b o hb z=>⟨o,?oG⟩)
     (fun b ys z=>?s9) (fun b o v z=>?s9) (fun b ps z=>⟨#[],by rw[?C1 b z,z];simp⟩) (fun m hm=>?_) (fun b v z=>?_) ?j2
    . ext jJ
      . exact⟨fe.2.2.2.1,fe.2.1,fe.2.2.2.2.1,fe.2.2.2.2.2⟩
      . ext p9
        subst z;exact⟨fi.2.2.2.1,fi.2.1,fi.2.2.2.2.1,fi.2.2.2.2.2⟩
    . rw[Ak (qc9 (qb3 z))];exact n
    . ext pA;exact⟨o,es',ep,kk _ o fe.2.1.symm fi.2.1.symm ho,r⟩
    . by_cases hb:?BN b
      . subst hb;rw[Ab]at z;cases z;exact⟨(?C7 2),[?y3,u],?aH ?i7 (?aH ru ?T),?q5⟩
      . rw[Ak hb]at z;refine(?hW b v z).stay (fun c y hc' q=>?_) (fun c q=>?qF) fun c ys q=>?qF
        ext pC
        . exact kk _ _ (?qE).1 (?qE).2 q
        . exact kk _ _ (?h7).1 (?h7).2 q
  . have lb:?wP:=by
     ext jJ
     . exact lte
     . ext p9
       subst z;obtain⟨o,z,_⟩:=h2;exact qb3 z
    rw[?lA];exact(?fO).1
 done:=by
  ext j7;ext jI;obtain⟨xs,hq,hx⟩:=hg;obtain⟨its,rv,p,hz⟩:=?cL;obtain⟨f0,f1,f2,f3,f4,f5⟩:=?yH;have hl:=rv.length;exact wpAny_pyNext_enum_end (I.ok.hd hc) h1 h2 ?G (by simp;omega) fun h' eb=>⟨rfl,I.turned (t':=s.toks) (fun b o hb z=>eb b o hb z) f0 f1 f3 f4 f5⟩
 self:=fun _ _ _ _ _ st h=>by
  ext jI;exact qt4 h1 h
inductive qF[?f](R:It->?a9)[?cX](H1:Hp):Prop
 | mk:∀a,?r6->((∃xs,SqL K H1 a xs))->(R (?d4) H1)->?wE
noncomputable def Ak0[?f](ta:TA):TI:=?C4 ?wE
theorem Wo:?CD ?eW ?eW:=?W
theorem Sx{X:Cx}[?l][?aQ][?jY]{a:Expr}{ta:TA}{p pos:Pos}(hg:Gl X ?eW)(hm:?cM ?eW=none)(ha:PA X [a] ta)[?q](hs:?dX [a] ?h=[?w6]:=by rfl):PI X ?hT (?BF ?eW [a]) (Ak0 K ta):=by
 subst hK;intro Af s σ H R I h;refine Call_ (Jt I hg hm Wo (qf1 (Du (ha pos Af s σ H _ I h) fun us s1 _z=>?_) hs rfl));obtain⟨vs,H1,I1,r1,q1⟩:=_z;obtain⟨l,e,⟨xs,hq⟩,q⟩:=q1;subst e;cases r1 with
 | cons r rr =>
   cases rr;cases r;obtain⟨its,rv,pl,hz⟩:=?mG hq;refine call_enumerate_list ?xK fun h' hen hit hsz hk=>?_;refine qt4 hen ⟨?mR,[?mR,s1.heap.objs.size],_,_,H1,rfl,?sC,KC l _ _ (qt0 _),⟨?tC,hit⟩,?eT,q⟩
   have lb:s1.heap.objs.size<=b:=by
    ext jJ
    . exact qn9 _
    . have z:b=s1.heap.objs.size:=?fR
      rw[z];exact ?a4
   exact I1.fpOk lb (?sZ lb)
section
variable{g:TG}{tc:TT}[?cT]
theorem aT[?l][?cV][?b4][?oZ]
 (hs:∀i x ys τ H p,?aK->?aV->?X->g ?aZ τ (?BJ p [?x,x]) ?kF)
 [?fX]:?AO (?d4) tc:=by
 ext oU;rintro i m ys τ H ⟨rfl,hi,pp⟩;have q:=hl i ys τ H hi pp;by_cases hlt:?lN
 . ext oT;obtain⟨p,v,hp,rfl,rfl,y⟩:=y;exact hs i v ys τ _ p (y xs q) pp hp
 . ext jP
   subst e;exact ?i ⟨?nE,hd ys τ H pp⟩
theorem Y6[?l][?cV][?AF][?AE](hl:∀i σ H,?fQ->?dA->?aN)
 (hs:∀i x σ H p,?aK->?dA->?X->g ?aZ σ (?BJ p [?x,x]) ?q0) (hd:∀σ H,Pv ?aS σ H->?hR) :
 ∃W:?pW,(∃m,W 0 m σ H)/\∀i m σ H,?y4 →
   ((?d4).stop i H/\?hR)\/(?AR ?d4 ?d4):=by
 refine⟨fun i m σ H=>m=xs.length-i/\?fQ/\?dA,?tE,?_⟩;rintro i m σ H ⟨rfl,hi,pp⟩;have q:=?qK;by_cases hlt:?lN
 . refine ?CB ?qU ?xT;obtain⟨p,v,hp,rfl,rfl,y⟩:=y;exact hs i v σ _ p (y xs q) pp hp
 . ext jP
   subst e;exact ?C2 ?nE ?wN
universe e9
theorem Bp.turnedN{X:Cx}[?b5]{h':Heap}{t':Nat}[?e5][?A](k:∀b o,b ∉ fp->?gP->?nW b=?r)[?g0] :
 Bp X Af σ H { s with heap:=h',toks:=t' }:=by
 have g7:∀c o,?lE->c ∉ fp:=?uE
 refine I.step (g':=s.gens) (d':=s.drawn) (ch:=fp) (?eT) (fun b o _ _ hc e _=>?m1) (fun b o _ _ hc e _=>⟨?oD,?m1⟩) (fun _ _ _ _ n=>n)
  (fun b o hc e=>⟨o,?m1⟩) (fun _ _ e=>e) (fun _ _ _ e=>e) (fun b ps e=>⟨#[],by rw[e];simp⟩) (fun m hm=>?_) (fun b u e=>?_) ?j2
 . have f:=?fO;ext zU
 . ext pA;exact⟨o,es',ep,k _ o (fun z=>(hf _ z).2.1 rfl) ho,r⟩
 . refine(?hW b u e).stay (fun c y hc' q=>?_) (fun c q=>q) fun c ys q=>q;ext pC
   . exact k _ _ (g7 _ _ e) q
   . exact k _ _ (?h7) q
noncomputable def ZK[?f](a b:Addr):It :=
 ⟨fun i H=>∃xs ys x y,?aN/\?hB/\?aK/\?fK,
  fun i H v H'=>∃p x y,?X/\v=?gG/\H'=?i0/\(∀xs,?aN->?aK)/\∀ys,?hB->?fK,
  fun i H=>∃xs ys,?aN/\?hB/\(?tH\/ys.length<=i)⟩
theorem mT[?g4][?l][?aQ][?jY](a b z TI TO i1 i2:Addr)(D:?sO z TI TO i1 i2 a b) :
 Wp P w K ?hT ?iB ?iX z (fun i h=>?bO h z TI TO ?c3/\?U h TI ?iM ?hL/\(∃c d,?U h TO c d)/\?l0 i1 a i/\?l0 i2 b i) where
 mem:=?Q
 obj:=fun i h st c hc=>by
  obtain⟨hz,hTI,⟨u,v,hTO⟩,⟨o1,h1,c1,d1⟩,⟨o2,h2,c2,d2⟩⟩:=st;ext p6;ext p1
  . exact⟨_,hz,fun v q=>by cases (show Data.fields _=Data.cell v from q)⟩
  . exact⟨_,hTI,?rT⟩
  . exact⟨_,hTO,?rT⟩
  . exact⟨o1,h1,fun v q=>by rw[d1]at q;cases q⟩
  . exact⟨o2,h2,fun v q=>by rw[d2]at q;cases q⟩
 keep:=fun i h h' st k=>by
  obtain⟨hz,hTI,⟨u,v,hTO⟩,h1,h2⟩:=st;exact⟨k z ?o _ hz,k TI ?o _ hTI,⟨u,v,k TO ?o _ hTO⟩,h1.at fun o q=>k i1 ?o o q,h2.at fun o q=>k i2 ?o o q⟩
 item:=by
  ext j7;ext A7;obtain⟨xs,ys,x,y,Wj,lI,hx,hy⟩:=hg;ext z9;obtain⟨u,hu,ru⟩:=ra.get hx;obtain⟨v,hv,rv⟩:=rb.get hy;ext zJ;have ltz:=qb3 hz;refine wpAny_pyNext_zip_item D hz hTI hTO h1 h2 ?o6 ?mY (x:=u) (y:=v) (by simpa using hu) (?o8) fun h' hz' YQ FJ h2' htup hsz hk=>?_;refine⟨_,rfl,wpAny_letOwnedTupleGo_zip hz' fun h3 hz3 Oo=>?_⟩
  replace Oo:?nD z h' h3:=Oo
  have kk:∀c o,?sG->?lW->?hG c=?r:=fun c o hc e=>by
   ext z6;exact(?aB c n1).trans (?wA)
  have tH:?BX u v:=(?aB _ (qk8 ltz)).trans htup;have hi1:?nY i1 a ?E:=FJ.at fun o e=>(?aB i1 D.i1z).trans e;have hi2:?nY i2 b ?E:=h2'.at fun o e=>(?aB i2 D.i2z).trans e;have yR:?U h3 TI ?iM ?hL:=(?aB TI D.TIz).trans (hk _ _ D.TIz D.TITO D.TIi1 D.TIi2 hTI);have yQ:?U h3 TO u v:=(?aB TO D.TOz).trans YQ;have g7:∀c o,?lE->?sG:=?uE
  have S7:∀c o,?lE->c≠s.heap.objs.size:=fun c o e=>Ar e ?gZ;refine⟨?dZ,?tG,?_,rfl,⟨?w,x,y,?gZ,rfl,rfl,fun zs q=>by rw[?gT q Wj];exact hx,fun zs q=>by rw[?gT q lI];exact hy⟩,⟨hz3,yR,⟨_,_,yQ⟩,hi1,hi2⟩,?lG⟩
  . refine Bp.step (s:=s) (h':=h3) (t':=s.toks) (H':=?tG) I (g':=s.gens) (d':=s.drawn) (ch:=?iX) (?lG) (fun c o _ _ hc e _=>?lZ) (fun c o _ _ hc e _=>⟨?oD,?lZ⟩) (fun c o hc e n=>?_) (fun c o hc e=>⟨o,?lZ⟩)
     (fun c zs e=>?u7) (fun c o w' e=>?u7) (fun c ps e=>⟨#[],by rw[?C1 c e,e];simp⟩) (fun m hm=>?_) (fun c w' e=>?_) ?j2
    . have f:=hf c hc;ext zU
    . rw[Ak (?rA)];exact n
    . ext pA;exact⟨o,es',ep,kk _ o (fun q=>(hf _ q).2.1 rfl) ho,r⟩
    . by_cases hcs:?BN c
      . subst hcs;rw[Ab]at e;cases e;exact⟨(?C7 2),[u,v],?aH ru (?aH rv ?T),?q5⟩
      . rw[Ak hcs]at e;refine(?hW c w' e).stay (fun c' y' hc' q=>?_) (fun c' q=>?uT) fun c' zs q=>?uT
        ext pC
        . exact kk _ _ (g7 _ _ e) q
        . exact kk _ _ (?h7) q
  . have lb:?CE c:=by
     ext p6;obtain⟨o1,q1,_⟩:=h1;obtain⟨o2,q2,_⟩:=h2;ext p1
     . exact ltz
     . exact qb3 hTI
     . exact qb3 hTO
     . exact qb3 q1
     . exact qb3 q2
    rw[?lA];exact(hf c hc).1
 done:=by
  ext j7;ext A7;obtain⟨xs,ys,Wj,lI,hx⟩:=hg;ext z9;have la:=ra.length;have lb:=rb.length;refine wpAny_pyNext_zip_end (I.ok.hd hc) D hz hTI hTO h1 h2 ?o6 ?mY ?_ fun h' hk=>⟨rfl,I.turnedN (t':=s.toks) (fp:=?iX) (fun c o hc e=>?_) hf⟩
  . rcases hx with q | q
    . exact ?i (by simp;omega)
    . exact ?e (by simp;omega)
  . ext z6;exact ?wA
 self:=fun _ _ _ _ _ st h=>qu5 st.1 h
inductive VX[?f](R:It->?a9)[?cX](H1:Hp):Prop
 | mk:∀a b,(vs=[?S,?a3])->((∃xs,SqL K H1 a xs))->((∃ys,SqL K H1 b ys))->(R ?iB H1)->?tN
noncomputable def A44[?f](ta:TA):TI:=?C4 ?tN
theorem mE:?CD ?fB ?fB:=?W
theorem bM{X:Cx}[?l][?aQ][?jY]{a b:Expr}{ta:TA}{p pos:Pos}(hg:Gl X ?fB)(hm:?cM ?fB=none)(ha:PA X ?a0 ta)[?q](hs:?dX ?a0 ?h=[?w6,?s8]:=by rfl)(hs2:?dX [b] ?h=[?s8]:=by rfl) :
 PI X ?hT (?BF ?fB ?a0) (A44 K ta):=by
 subst hK;intro Af s σ H R I h;refine Call_ (Jt I hg hm mE (qf1 (Du (ha pos Af s σ H _ I h) fun us s1 ⟨vs,H1,I1,r1,q1⟩=>?_) (by rw[hs,hs2]) (by rw[hs2];rfl)));obtain⟨la,lb,e,⟨xs,Wj⟩,⟨ys,lI⟩,q⟩:=q1;subst e;cases r1 with
 | cons ra rr =>
   cases rr with
   | cons rb rr =>
     cases rr;cases ra;cases rb;obtain⟨ia,_,pa,_⟩:=?mG Wj;obtain⟨ib,_,pb,_⟩:=?mG lI;have a1:la<s1.heap.objs.size:=by obtain⟨_,e,_⟩:=pa.isList;exact ?dC
     have a2:lb<s1.heap.objs.size:=by obtain⟨_,e,_⟩:=pb.isList;exact ?dC
     refine call_zip_2 ?o6 ?mY fun h' hz hTI hTO hi1 hi2 hsz hk=>?_;refine qu5 hz ⟨?y8,[?y8,?BG 2,?BG 3,s1.heap.objs.size,?mR],_,_,H1,rfl,?sC,mT la lb _ _ _ _ _ (zipApart_new a1 a2),⟨hz,hTI,⟨_,_,hTO⟩,hi1,hi2⟩,?lG,q⟩
     have lc:s1.heap.objs.size<=c:=by
      ext p6;ext p1
      . exact ?hF
      . exact ?hF
      . exact ?hF
      . exact ?a4
      . exact ?hF
     exact I1.fpOk lc (?sZ lc)
section
variable{g:TG}{tc:TT}[?cT]
theorem eW[?l][?zQ][?b4][?zK]
 (hs:∀i x y zs τ H p,?aK->?fK->?gC->?X->g ?aZ τ (?i0) (?AY ?t3 zs))
 [?AI]:?AO ?iB tc:=by
 refine⟨fun i m zs τ H=>m=n-i/\i<=n/\?gC,?kD,?_⟩;rintro i m zs τ H ⟨rfl,hi,pp⟩;obtain⟨qa,qb⟩:=hl i zs τ H hi pp;by_cases hlt:i<n
 . refine ?e ⟨?rE,?cO,?xI,?fS⟩;obtain⟨p,u,v,hp,rfl,rfl,y1,y2⟩:=y;exact hs i u v zs τ _ p (y1 xs qa) (y2 ys qb) pp hp
 . have e:i=n:=O9m
   subst e;exact ?i ⟨?sD,hd zs τ H pp⟩
theorem tO[?l]{a b:Addr}{xs ys:?j}{n:Nat}[?AF](hn:n=min ?aS ?nQ)[?AE](hl:∀i σ H,i<=n->?dA->?vD)
 (hs:∀i x y σ H p,?aK->?fK->?dA->?X->g ?aZ σ (?i0) ?q0) (hd:∀σ H,Pv n σ H->?hR) :
 ∃W:?pW,(∃m,W 0 m σ H)/\∀i m σ H,?y4 →
   ((?h2).stop i H/\?hR)\/(?AR ?h2 ?h2):=by
 refine⟨fun i m σ H=>m=n-i/\i<=n/\?dA,?kD,?_⟩;rintro i m σ H ⟨rfl,hi,pp⟩;obtain⟨qa,qb⟩:=?qK;by_cases hlt:i<n
 . refine ?CB ?rE ?wO;obtain⟨p,u,v,hp,rfl,rfl,y1,y2⟩:=y;exact hs i u v σ _ p (y1 xs qa) (y2 ys qb) pp hp
 . have e:i=n:=O9m
   subst e;exact ?C2 ?sD ?wN
universe e9
theorem op_mulX{X:Cx}:OpR X (?iG .Mult) (rI ?cE fun i j=>?d (i*j)):=opI fun _ _ _ _ _ _ _ hc q=>mul_int q hc
theorem jO{i:Int}{m:Nat}(h:?u0):?nG i<=m:=by
 unfold Builtin.Int.intBits;split
 . exact ?f4
 . rename_i h0
   have hne:i.natAbs≠0:=by
    intro z
    exact h0 (by have:i=0:=O9m
                 simp[this])
   exact(?lP hne).mpr h
theorem S8{i j:Int}{m n:Nat}[?pH](hj:j.natAbs<2 ^ n)(h:m+n<=134217728):?cE i j:=by
 have h1:=jO hi;have h2:=jO hj
 have h3:¬((?nG i:Nat):Int)+((?nG j:Nat):Int) > ((bitsLine:Nat):Int):=by
  have:bitsLine=134217728:=?lR
  omega
 unfold IntMulOk;intro hz;simp only[qc8]at hz;have h4:=hz.2;unfold Builtin.Int.intTooBig at h4;exact h3 (by simpa using h4)
theorem bT{i j:Int}(h1:-(2 ^ 64)<i)(h2:i<2 ^ 64):?cE i j:=zP.ok (?i ?vH)
universe L2
namespace L2
open PySem PySem.W PySem.Calls PyProof.Rows
noncomputable def Px:Nat:=1048576
theorem W3:∀[?b6]{x:Int},x∈ns->?oB (?d x)<=?B0 WData.weightAll
 | ?g9,x,h=>by
   rw[qd5];simp only[WData.weightAll];rcases ?iR with rfl | h
   . omega
   . have:=W3 h;omega
theorem MA[?b6](h:WData.layableAll [?B0 WData.list]=true):?gH:=by
 intro x hx
 have h1:?t (?oB (?B0 WData.list)<=2 ^ 20)=true:=by
  have:WData.layable (?B0 WData.list)=true:=by simpa[WData.layableAll]using h
  unfold WData.layable at this;exact(Bool.and_eq_true_iff.mp this).2
 have h2:?B0 WData.weightAll<=1048576:=by
  have:=qd7 h1;simpa only[WData.weight]using this
 have h3:=W3 hx;by_cases h0:x.natAbs=0
 . rw[h0];exact Nat.pow_pos ?c1
 . have h4:?oB (?d x)=x.natAbs.log2+1:=by
    simp only[WData.weight];rw[?I fun z=>h0 (by rw[show x=0 by simpa using z];rfl)]
   have h5:x.natAbs.log2<Px:=by show _<1048576;omega
   exact(?lP h0).mp h5
theorem CQ{l:OpenLaw}{n:Nat}[?z5]
 [?pJ] (hdf:?uU)
 (call:∀(w:World) (s₀ s₁:Shared) (mg mb:?c6) (fa:Addr) (o:Obj) (pm cd doc:Value) (a:Addr) (vs:?B) [?bZ],(?gH) →
   Ground q loose [] XP w s₀ mg mb ?cR->YP w ?cR →
   ?lD fa=?r->o.data=.func (docDef ?l5 d.params d.body d.scope pm cd doc)->s₁.heap.CodeRec cd ?l5->?xN →
   ?q6->?f2->?iN->?r0 →
   ?AN l.prog) :
 ?BA WalkO:=by
 intro w s₀ s₁ mg mb G Y fa o pm cd doc dV kV ho hd hcd hD hmg hg args vals as hpre hlay hrd hwl hlo;obtain rfl:dV=?c3:=Dflts.none hD hdf;obtain rfl:kV=?c3:=Dflts.noKw hD;obtain⟨a,vs,ns,rfl,rfl,hobj,hints,hlen⟩:=Att.script_of hn hpre hwl;refine enter_call (codeAny_mono (call w s₀ ?dY mg mb fa o pm cd doc a vs ns (MA hlay) G Y ho (fd_plain hd) hcd hmg hobj hints hlen hg) fun r s' hq=>?_);obtain⟨rfl,h2,h3,h4⟩:=hq;exact⟨?i ⟨?iW,?iW,[],rfl,fun _=>rfl,?iW,Att.post_true l _,fun _=>⟨List.Pairwise.nil,fun _ hm=>(nomatch hm)⟩⟩,h2,h3,h4⟩
theorem walk_ofB{l:PySem.W.OpenLaw}{n k:Nat}[?z5]{K:Params->PySem.W.Frag}{CX:World->qH}{sp:World->Sp}{x:Str}
 [?pJ] (hn2:?mU) (hdf:?uU) (hr:?r4)
 (hY:∀(w:World) (h:Heap),YP w h->?kY h)
 (F:∀(w:World) (mg:?c6) (fa:Addr) (h:Heap),?kY h->h.Ns ?mL mg->?xN →
   ∃fd:FuncData,(?vO) ∧
     ∀base:Heap,?kY ?cD->?qJ->Bx l.prog w (K w.params) mg ?cD (CX w) k fa fd [x] (sp w))
 (JE:∀(w:World) (H:Hp) (a:Addr) [?bZ],?iN->(?gH)->zJ H->SqL (K w.params) H a ?eK->sp w ?fM H (fun v _=>v=.bl ?aF) ?eL)
 (hCX:∀(w:World) (H:Hp) (s:Shared) (e:Value) (s':Shared),CX w [] H s (?eL) e s'->False) :
 ?BA PySem.W.WalkO:=by
 refine CQ hn hdf fun w s₀ s₁ mg mb fa o pm cd doc a vs ns YN G Y ho hd hcd hmg hobj hints hlen hg=>?_;have KX:=hY w _ Y;obtain⟨fd,hb,hF⟩:=F w mg fa _ KX G.T.g hmg;exact OM KX G.T.g G.T.b G.T.builtins G.T.nolimit hg hobj hints (qa5 hlen hn2) hr hF hb (fun H hO hS=>JE w H a ns hlen YN hO hS) fun H e s'=>hCX w H ?dY e s'
universe L2
namespace Hb
noncomputable def Al(f:?z):?z
 | 0=>0
 | n+1=>?f3
theorem Ao{f g:?z}:∀{n:Nat},(∀k,k<n->f k=g k)->?dF=?hV
 | 0,_=>rfl
 | n+1,h=>by
   show ?f3=?hV+g n;rw[Ao fun k hk=>h k ?Z,h n ?Z]
theorem P5:∀n:Nat,Al (?l1) n=0
 | 0=>rfl
 | n+1=>by show ?eH+0=0;rw[P5 n];rfl
theorem De(f g:?z):∀n:Nat,Al (fun k=>f k+g k) n=?dF+?hV
 | 0=>rfl
 | n+1=>by
   show ?eH+(f n+g n)=(?f3)+(?hV+g n)
   rw[De f g n];omega
theorem Bh(c:Int)(f:?z):∀n:Nat,Al (fun k=>c*f k) n=c*?dF
 | 0=>by show ?lS=c*0;rw[qf3]
 | n+1=>by
   show ?eH+c*f n=c*(?f3);rw[Bh c f n,Int.mul_add]
theorem Gm(c:Int)(f:?z)(n:Nat):Al (fun k=>f k*c) n=?dF*c:=by
 rw[qf7,←Bh];exact Ao fun k _=>qf7 ..
theorem D8[?jZ](m:Nat):∀n:Nat,Al (fun i=>Al ?cN m) n=Al (fun j=>?v3) m
 | 0=>(P5 m).symm
 | n+1=>by
   show ?eH+Al (f n) m=Al (fun j=>?v3+f n j) m;rw[D8 f m n,De]
theorem Dk(f:?z)(i:Nat):∀n:Nat,Al (fun k=>(if k=i then 1 else 0)*f k) n=if i<n then f i else 0
 | 0=>by simp[Al]
 | n+1=>by
   show ?eH+(if n=i then 1 else 0)*f n=_;rw[Dk f i n];by_cases h:n=i
   . subst h;simp
   . by_cases h2:i<n
     . rw[?D h2,?gD,?D ?Z];omega
     . rw[?I h2,?gD,?cG];omega
noncomputable def Hu[?bX]:?m:=(?bJ n).map f
theorem Iy[?bX]:(?cP).length=n:=by unfold Hu;rw[qa2,qj2]
theorem sV[?jU](h:i<n):?CH (?cP) ?cN:=by
 unfold Hu;rw[qa8,qm1 h];rfl
theorem Yn[?bX]:?sW=?cP++[f n]:=by
 unfold Hu;rw[ql3,qb0];rfl
theorem aH[?AB]:?cP=Hu n g:=by
 unfold Hu;refine qo1 fun i hi=>h i (?uL)
theorem sU(n:Nat):(?a8 n [?lS]).flatten=?w5:=by
 induction n with
 | zero=>rfl
 | succ n ih =>
   rw[Yn,←ih];clear ih
   induction n with
   | zero=>rfl
   | succ n ih =>
     rw[qj1,ql5,ih];have ih':=ih;rw[qj1,ql5]at ih';rw[←qs1,ih']
theorem ZG{i j:Int}{m:Nat}[?pH](hj:j.natAbs<?hY):(i+j).natAbs<2 ^ (m+1):=by
 have h:=qf4 i j;rw[qg7];generalize ?hY=q at *;omega
theorem TZ{i:Int}{m n:Nat}[?pH](h:m<=n):i.natAbs<2 ^ n:=qb4 hi (qe7 ?c1 h)
theorem pR{f:?z}{m:Nat}:∀{n:Nat},(∀k,k<n->(f k).natAbs<?hY)->(?dF).natAbs<2 ^ (m+n)
 | 0,_=>by show(0:Int).natAbs<_;exact Nat.pow_pos ?c1
 | n+1,h=>by
   have h1:=pR (n:=n) (f:=f) fun k hk=>h k O9m;show(?f3).natAbs<2 ^ (m+n+1);exact ZG h1 (TZ (h n O9m) (qe8 m n))
universe Hb
namespace Hb
open PySem L2
noncomputable abbrev VI[?bX]:?j:=(?cP).map ?H
noncomputable def dL[?bX]:L2.D:=?g (D9 (?cP))
noncomputable def dT(h w:Nat)[?jZ]:L2.D:=?g ((?bJ h).map ?nK)
section
variable[?l]{H H' H1 H2:Hp}
theorem Bu[?bX]:?wC=n:=by rw[qa2,Iy]
theorem Cq[?jU](h:i<n):?CH ?eZ (?d ?cN):=by rw[qa8,sV h];rfl
theorem Ap6[?jU](h:i<n):V3 ?eZ ((i:Nat):Int)=?c (?d ?cN):=Bk (Cq h)
theorem Va[?jU]{u:V}(h:?CH ?eZ u):i<n/\u=?d ?cN:=by
 have h1:i<?wC:=(?cQ h).1;rw[Bu]at h1;rw[Cq h1]at h;exact⟨h1,(qe1 h).symm⟩
theorem Tw[?bX]:VI ?c8 f=?hX++[?d (f n)]:=by
 show(?sW).map ?H=_;rw[Yn,qb0];rfl
theorem P0[?AB]:?hX=VI n g:=by
 show(?cP).map ?H=(Hu n g).map ?H;rw[aH h]
theorem zH(n:Nat):(?a8 n [?H 0]).flatten=VI n ?l1:=by
 show _=(?w5).map ?H;rw[←sU,List.map_flatten,List.map_replicate];rfl
theorem Ap1{v:V}{n:Nat}{f:?z}(h:?AZ v ?sU):∃a,?dI/\?kL:=by
 ext fZ;rw[Ei.mp r]at q;exact ?r3
theorem PL{a:Addr}{n:Nat}{f:?z}(h:?kL):?AZ ?bK ?sU:=?yU
theorem Hj{v:V}{h w:Nat}[?aO](r:?rL):∃a us,?dI/\?hM/\?nC/\∀i u,?CH us u->i<h/\∃b,u=?a3/\?wJ:=by
 obtain⟨a,us,e,q,r⟩:=r;have hl:?nC:=?uV
 refine⟨a,us,e,q,hl,fun i u hu=>?_⟩;have hi:i<h:=by have:=(?cQ hu).1;omega
 obtain⟨d,hd,rd⟩:=r.getV hu;rw[qa8,qm1 hi]at hd;have e2:d=?yA:=(qe1 hd).symm;subst e2;exact⟨hi,Ap1 rd⟩
structure Rows(H H1:Hp)(D:Addr)(as:?aD)(w:Nat)[?jZ]:Prop where
 same:?f6
 free:?e0
 «at»:H1 D=?BD (?nL)
 row:∀j a,as[j]?=?gN->?qG/\a≠D/\H1 a=?BD (VI w (f j))
theorem Rows.nil{D:Addr}{w:Nat}[?aO](h:?e0):?BY (upd H D ?bE) []:=⟨?wF h,h,Ab,fun j a e=>?rI⟩
theorem Rows.push{D b:Addr}{as:?aD}{w:Nat}[?aO][?g2](hb:H1 b=none)(s:?oE)(h2:H2 b=?BD (VI w (f as.length))):?BY (upd H2 D (?g (?nL++[?a3]))) (as++[b]):=by
 have hne:b≠D:=fun z=>by rw[z,R.at]at hb;cases hb
 refine⟨(R.same.trans s).turn ?eR,?eR,by rw[Ab,qb0];rfl,?q3⟩;by_cases hj:j<as.length
 . rw[qb8 hj]at e;obtain⟨h1,h2',h3⟩:=?eB;exact⟨h1,h2',by rw[Ak h2'];exact s _ _ h3⟩
 . have hl:j<(as++[b]).length:=?uQ;have ej:j=as.length:=by simp at hl;omega
   subst ej;have eb:b=a:=?eF
   subst eb;exact⟨R.same.free hb,hne,by rw[Ak hne];exact h2⟩
theorem Rows.rep[?jT]{h w:Nat}[?aO][?g2](hl:?mA):Rep K H1 ?aG ?g8:=by
 refine⟨D,_,rfl,.of R.at,?_⟩;subst hl
 have go:∀(bs:?aD) (n:Nat),(∀j a,bs[j]?=?gN->H1 a=?BD (VI w (f (n+j))))->?p K H1 (bs.map V.ref) ((?u2 n bs.length).map ?nK):=by
  intro bs
  induction bs with
  | nil=>intro n _;rfl
  | cons b bs ih =>
    intro n hr;refine⟨?a3,bs.map V.ref,rfl,PL (.of ?_),?_⟩
    . have:=hr 0 b rfl;ext aP
    . refine ih ?c8 ?q3;have:=hr (j+1) a (?eF);rw[?yN];exact this
 have:=go as 0 fun j a e=>by rw[qt7];exact ?n4
 rw[List.range_eq_range'];exact this
theorem Rows.later[?jT]{w:Nat}[?aO][?g2](s:?oE):?BY H2 as :=
 ⟨R.same.trans s,?eR,s _ _ R.at,fun j a e=>⟨(?eB).1,?sF,s _ _ ?n4⟩⟩
theorem Rows.earlier{H0:Hp}[?jT]{w:Nat}[?aO](s:?x4)[?g2]:?dD H0 H1 D as w f :=
 ⟨s.trans R.same,?oO ?eR,R.at,fun j a e=>⟨?oO (?eB).1,?sF,?n4⟩⟩
theorem AS{g:TG}[?cT][?l][?zQ][?b4][?zK]
 (hs:∀i x y zs τ H p,?aK->?fK->?gC->?X->g ?aZ τ (?i0) fun τ2 H2=>te τ2 H2 ?t3)
 [?AI]:?AO ?iB KH:=eW hn Pv h0 hl (fun i x y zs τ H p e1 e2 pp hp=>hs i x y zs τ H p e1 e2 pp hp) hd
universe e9
noncomputable def newL(H:Hp)[?bX](Q:V->?a9):Prop:=∀(D:Addr) (H':Hp),?e0->?C->H' D=?BD ?eZ->?hC
noncomputable def sM(H:Hp)(h w:Nat)[?jZ](Q:V->?a9):Prop:=∀(D:Addr) (as:?aD) (H':Hp),?mA->?BY H' as->?hC
section
variable[?f]
noncomputable def z7:Sp:=fun vs H Q _=>bB fun ?c5 (h w j:Nat) ?h5=>Dn (vs=[v,?d j]) ?h9 ?gF (j<w) (newL H h (fun i=>f i j) Q)
noncomputable def Hy:Sp:=fun vs H Q _=>V6 fun ?c5 ?n3 ?h5=>Dn (vs=[v,?d w]) ?h9 ?gF ?h0 (sM H w h (fun i j=>f j i) Q)
universe e9
section
variable[?f]
noncomputable def Ws:Sp:=fun vs H Q _=>Jj fun ?cC ?nB=>Dn ?r6 (?f0) (ns.length<=63) ((?gH)) (∀H',?m7)
noncomputable def Sj:Sp:=fun vs H Q _=>zN fun(a b:Int) (x y:Addr) (n:Nat) (p q:?z)=>Hq (vs=[?d a,?k x,?dT,?k y]) (?B4 x (VI n p)) (?B4 y (VI n q)) (?iP) ((∀j,j<n->?cE a (p j)/\?cE b (q j))) (newL H n (fun j=>a*p j+b*q j) Q)
noncomputable def Qs:Sp:=fun vs H Q _=>UG fun(x:Addr) ?c5 ?n3 (a:?z) ?h5=>Mn (vs=[?k x,v,?d w]) (?B4 x (VI h a)) ?h9 ?gF ?h0 ((∀k j,k<h->j<w->?cE (a k) (f k j))) (newL H w (fun j=>Al (fun k=>a k*f k j) h) Q)
noncomputable def Q8:Sp:=fun vs H Q _=>zN fun(u v:V) (h d w:Nat) (f g:?dJ)=>Ve (vs=[u,v,?d w]) (?AZ u (dT h d f)) (?AZ v (dT d w g)) ?gF (d<=1000) ?h0 ((∀i k j,i<h->k<d->j<w->?cE (f i k) (g k j))) (sM H h w (fun i j=>Al (fun k=>f i k*g k j) d) Q)
noncomputable def Xa(_K:W.Frag):Sp:=fun vs H Q _=>∃n i:Nat,vs=[?bQ,?x]/\?iP/\newL H n (fun j=>?uC) Q
noncomputable def bF(_K:W.Frag):Sp:=fun vs H Q _=>∃n:Nat,vs=[?bQ]/\?iP/\sM H n n (fun i j=>?uC) Q
universe e9
universe Hb
namespace L2
open PySem PySem.Spec PyProof.Rows
structure Kg[?jV][?f][?jK](C:Addr)(m:Str)[?jO]:Prop where
 ex:∃(f:Addr) (fd:FuncData),pV K C m f/\?hD
structure FI[?jV][?f][?jK](C:Addr)[?jO]:Prop where
 ex:∃(f:Addr) (fd:FuncData),Mk K C f/\?hD
section
variable{X:Cx}[?l][?AC]{x m f:Str}{p pos apos pos':Pos}{e o value:Expr}[?aQ]{ta tv:TE}{t:TA}
theorem Dp[?z4][?pG][?jW]
 [?zB] (hpl:?gA (·.1)=false:=by rfl)
 (ht:?D5 (?AP o ?aX)=(do
   let ov ←?hI
   ?nO
   let ?lY ←?n9
   ?yR):=by rfl) :
 ?D3 ?aX t:=by
 ext p8;exact rV he c h1 h3 ?eY h2 ?T DS ha hst hpl ht
theorem Mz[?z4][?jW]
 (ht:?D5 (?AP o [])=(do
   let ov ←?hI
   ?nO
   let ?lY ←?n9
   ?B6 (?dX [] ?h)):=by rfl) :
 ?D3 [] WK:=by
 ext p8;exact NJ he c h1 h3 ?eY h2 ?T DS ht
theorem M0(h:?CX FI C)[?zF](hk:j+1<=k:=by decide)[?p2]
 [?zC] (hpl:?gA (·.1)=false:=by rfl):PE X (?BF x ?aX) (UL C sp [] E0 t):=by
 ext p8;exact RV h1 h3 ?eY hg hm h2 ?T DS ha hdb he hpl
theorem Bb(he:PE X e ta)[?q](hb:?xD e f ?h (?nH)=?nH:=by rfl):PE X (?aR e f pos) (Ae2 K ta f):=by subst hK;exact xB he hb
theorem Ew(ha:?y0)(hv:PE X value tv)[?q](hs:?rM value (?c (?v8)) pos.line ?h=?O ?b7:=by rfl):PS X (.Assign [?v8] value pos) (Af2 K ta tv f):=by subst hK;exact WY ha hv hs
universe e9
noncomputable abbrev TJ:=St->?B9 Hp (?a9)
section
variable{X:Cx}{e v₁ v₂:Expr}{es rest:?hP}{te:TE}{tj:TJ}{pos:Pos}
universe e9
universe L2
namespace Hb
open PySem L2
inductive Tn where
 | mi (i:Nat) | sw (i j:Nat) | ad (i j:Nat) (n:Int)
noncomputable def QM:Tn->L2.D
 | .mi i=>?u [?M "minus",?x]
 | .sw i j=>?u [?M "swap",?x,?d j]
 | ?iJ=>?u [?M "add",?x,?d j,?bQ]
noncomputable def QT:Tn->(?dJ)->?dJ
 | .mi i,f=>fun r c=>if r=i then -(f i c) else f r c
 | .sw i j,f=>fun r c=>if r=j then f i c else if r=i then f j c else f r c
 | ?iJ,f=>fun r c=>if r=i then 1*f i c+n*f j c else f r c
noncomputable def tnB:Tn->Tn
 | ?iJ=>.ad i j (-n)
 | t=>t
noncomputable def tnA:Tn->Tn
 | ?iJ=>.ad j i (-n)
 | t=>t
noncomputable def tB(B:Nat):Tn->Prop
 | .ad _ _ n=>n.natAbs<2 ^ B
 | _=>True
theorem Mw{f:Str}{v:V}:∀{fs:?n (Str × V)}{x:V},fs.lookup f=?b3->(putF f v fs).length=fs.length
 | [],x,h=>by cases h
 | (g,y)::r,x,h=>by
   unfold putF;by_cases e:g=f
   . rw[?D e];rfl
   . rw[?I e,qc5,qc5];rw[qp9]at h;have e2:(f==g)=false:=by simpa using fun z=>e z.symm
     rw[e2]at h;rw[Mw h]
noncomputable def Td(H:Hp)(Z:?kJ):Hp:=fun a=>@ite _ (Z a) ?j4 ?dO (H a)
section
variable[?l]{H H' H1:Hp}{Z:?kJ}
theorem Tc{a:Addr}(h:¬Z a):?xM=H a:=by unfold Td;rw[?gD]
theorem Yy{a:Addr}(h:Z a):?xM=none:=by unfold Td;rw[?gU]
theorem M4:?a6 ?uN H:=fun a o e=>by
 by_cases h:Z a
 . rw[Yy h]at e;cases e
 . rw[Tc h]at e;exact e
theorem AM(h:∀a o,¬Z a->H a=?r->H' a=?r):?v7:=fun a o e=>by
 by_cases hz:Z a
 . rw[Yy hz]at e;cases e
 . rw[Tc hz]at e ⊢;exact h a o hz e
theorem MY(s:?C):?v7:=AM fun a o _ e=>s a o e
theorem EV{a:Addr}{us:?j}{h w:Nat}[?aO](hq:?hM)(hl:?nC)(hr:∀i,i<h->∃b,?CH us ?f5/\?wJ):?AZ ?bK ?g8:=by
 refine⟨a,us,rfl,hq,?_⟩;subst hl
 have go:∀[?cX] (n:Nat),(∀j,j<vs.length->∃b,vs[j]?=?c ?f5/\?B4 b (VI w (f (n+j))))->?BR vs ((?u2 n vs.length).map ?nK):=by
  intro vs
  induction vs with
  | nil=>intro n _;rfl
  | cons v vs ih =>
    intro n hv;obtain⟨b,e,hb⟩:=hv 0 ?o;have ev:v=?a3:=?eF
    subst ev;refine⟨?a3,vs,rfl,PL (?fR),?_⟩;refine ih ?c8 fun j hj=>?_;obtain⟨b',e',hb'⟩:=hv (j+1) (by simpa using hj);refine⟨b',by simpa using e',?_⟩;rw[?yN];exact hb'
 have:=go us 0 fun j hj=>by rw[qt7];exact hr j hj
 rw[List.range_eq_range'];exact this
theorem Rows.hid[?jT]{h w:Nat}[?aO][?g2](hl:?mA)(hz:∀a,Z a->?l3):Rep K (Td H1 Z) ?aG ?g8:=by
 have nz:∀a,?qG->¬Z a:=fun a e z=>hz a z e;refine EV (us:=?nL) (.of ?_) (?qB) fun i hi=>?_
 . rw[Tc (nz D ?eR)];exact R.at
 . have hi':i<as.length:=O9m
   obtain⟨h1,_,h3⟩:=R.row i as[i] (qa0 hi');refine⟨as[i],by rw[qa8,qa0 hi'];rfl,.of ?_⟩;rw[Tc (nz _ h1)];exact h3
universe e9
section
variable[?f]
noncomputable def Jd:Sp:=fun vs H Q _=>Og fun ?cC (n:Nat) (f:?z)=>B6 (vs=[?S,?bQ]) (?kL) (?iP) (∀H',?C->?m7)
noncomputable def Vj:Sp:=fun vs H Q _=>V6 fun ?c5 ?n3 ?h5=>Dn (vs=[v,?d w]) ?h9 (h<=40) ?h0 (∀H',?C->?m7)
noncomputable def AA:Sp:=fun vs H Q _=>Jj fun(u:V) (t:Tn)=>Fc (vs=[u]) (?AZ u (QM t)) (∀(v:V) (H':Hp),?C->Rep K H' v (QM (tnA t))->Q v H')
variable(CL CT:Addr)
universe e9
section
variable[?l][?zP][?aO]{ds:?n (Bool × Tn)}
noncomputable def Ls(H H':Hp):Prop:=∀c q,H c=?tD->H' c=?tD
noncomputable def Kp(H H':Hp):Prop:=∀a,?l3->H' a≠none
theorem Kp.trans{H H1 H2:Hp}(x:?mC)(y:Kp H1 H2):Kp H H2:=fun a e=>y a (x a e)
theorem Kp.of{H H1:Hp}(s:?f6):?mC:=fun a e z=>e (?oO z)
theorem Kp.upd{H:Hp}{p:Addr}{o:HO}:Kp H (upd H p o):=fun a e z=>by
 by_cases hap:a=p
 . rw[hap,Ab]at z;cases z
 . rw[Ak hap]at z;exact e z
theorem Kp.x{H H1:Hp}{p:Addr}{o:HO}(s:?dQ p H H1)(hp:H1 p=?r):?mC:=fun a e z=>by
 by_cases hap:a=p
 . rw[hap,hp]at z;cases z
 . cases q:H a with
   | none=>exact e q
   | some o'=>rw[s a o' hap q]at z;cases z
universe e9
section
variable[?f]
universe e9
section
variable[?l][?zP][?aO]{ds:?n (Bool × Tn)}
universe e9
universe Hb
namespace L2
open PySem PySem.Spec PyProof.Rows PySem.W
section
variable{X:Cx}
noncomputable def Vd(_i j:Int):Prop:=j≠0/\j.natAbs.log2<9000
theorem Vd.of{i j:Int}(h0:j≠0)(h:j.natAbs<2 ^ 9000):Vd i j:=⟨h0,(?lP O9m).mpr h⟩
theorem K0:OpR X (?iG .FloorDiv) (rI Vd fun i j=>?d (i.fdiv j)):=opI fun _ _ _ _ _ _ _ hc q=>floordiv_int hc.1 q (?i (PyProof.noPylong_of_log2 hc.2))
noncomputable def insAt(k:Nat)(y:α)(xs:?hA):?hA:=xs.take k++y::?r7
inductive fH(x:V)[?cX][?J]:Prop
 | mk:∀(l:Addr) [?c0] (k:Nat) (y:V),?eU->(vs=[?d k,y])->?hU->(?qX)->?CZ (insAt k y xs) ?r8
noncomputable def RH:?eN:=?BW ?r8
theorem Uo:MtM X "list.insert" RH:=by
 ext jC;obtain⟨l,xs,k,y,rfl,rfl,hH,hk,hz,q⟩:=h;cases rx;obtain⟨u1,u2,rfl,r1,r2⟩:=CZ rv;obtain⟨t,rfl⟩:=r1;ext jD
 have hsl:((k:Nat):Int)<?dW:=by
  have h1:?BI k:=O9m
  have h2:sizeLine<=2 ^ 62:=?W
  have h3:=qa5 h1 h2;omega
 have hfit:¬(! ?w7 ?iZ)=true:=by
  rw[?uO ?Z hsl];exact qd6
 have hsz:?BI its.toArray.size:=?k9
 obtain⟨ki,hki⟩:∃ki:Int,ki=?iZ:=?i7
 rw[←hki]at hfit ⊢;have hm:=AutoSeq1.list_insert_list_int_val_1 l ?L n ki t u2 hfit hsz;refine ?d1 F.slot_list_insert ?d7 F.entry_list_insert (F.args_list_insert_3 _ _ _) hm ?j3;refine⟨?R,_,?oH (its':=insAt k u2 its) hH e ?_ ?_ ?_,rfl,q⟩
 . have hkl:k<=its.length:=O9m
   have hkn:ki.toNat=k:=O9m
   simp only[qc3,hkn];rw[?cG,?sJ hkl];apply Array.ext';simp only[insAt,Array.toList_append,Array.toList_push,Array.toList_extract,List.extract_eq_drop_take,List.drop_zero,qw2];rw[qs1,qm6 (i:=its.length-k) (by rw[qg6];omega)];rfl
 . exact(r.take k).append (?aH r2 (r.drop k))
 . unfold insAt;rw[qb1,qc5,qc1,qg6];omega
structure Ar3(K:Frag)(D:Addr)(m:Str)(f:Addr):Prop where
 rd:readsIn K D (?P "type")=true
 fc:findCls K ?aG (?P "type") m=?c (.val ?oM)
 ga:specialIn K ?aG "__getattribute__"=?c (?c (?a7 "type.__getattribute__"))
 kp:?gM
structure ZM[?jV](K:Frag)[?jK](C:Addr)(m:Str)[?jO]:Prop where
 ex:∃(f:Addr) (fd:FuncData),Ar3 K C m f/\?hD
theorem rX[?AC]{x m:Str}{np apos pos:Pos}{e:Expr}[?aQ]{t:TA}{pl:Sem Bool}(h:?C3 ZM)[?zF][?jW]
 [?p2] [?zB] (hpl:?gA (·.1)=false:=by rfl)
 (ht:?D5 (?AP (?aT x np) ?aX)=(do
   let ov ←?D5 (?aT x np)
   ?nO
   let ?lY ←?n9
   ?yR):=by rfl) :
 PE X (?AP (?aT x np) ?aX) (tCall sp [] E0 t):=by
 obtain⟨f,fd,B,hb,F⟩:=h.ex;intro Af s σ H Q I h;refine qp6 (pl:=pl) (Ww I hg hm ?_ hdb) ht;refine method_cls ?bB B.ga (cls_value ?bB B.rd B.fc rfl ?_);refine qq9 (h₀:=X.base) I.ok.mod.kin B.kp (Du (ha pos Af _ σ H _ (I.tok _) h) fun us s1 ⟨vs,H1,I1,r,q⟩=>⟨I1.kIn,?_⟩) hst hpl;exact bJ F ?eY hb ?T DS I1 r q
universe e9
universe L2
namespace L2
open PySem PySem.Spec PyProof.Rows
section
variable[?jA][?e7]
theorem Js[?AK]{x:Value}[?pF][?A4](gx:vs[n]?=?b3)
 (k:∀h',?kP j t ?c8->?nD j ?bM h'->Q x ?nN):?vT:=by
 ext yV;simp only[qe4,gx];refine qa7 (?yE q1 q3 ?o (qc6 ⟨x,rfl,qc6 (k _ ?_ (Heap.SameBut.update ..))⟩));exact⟨_,Heap.get?_update_self _ q1 (Obj.isFreed_of_fields (?wD q3 _)),(Obj.cls_mapFields ..).trans q2,by rw[?wD q3];simp[rawInt]⟩
theorem Pl[?AK][?pF](hn:A.handled=none)[?A4](gx:vs[n]?=none)
 (k:∀h' e,Heap.ExtBut j ?bM h'->(∃o,?nW e=?r/\o.cls=?P "StopIteration")->E (?k e) ?nN):?vT:=by
 ext yV;simp only[qe4,gx];refine qa7 (?qM (qa7 (?yE q1 q3 ?o ?_)));show ?AV (newExc (?P "StopIteration") []>>=_) _;refine ?dU;simp only[newExc,newTuple];refine qa7 (?u6);refine qa7 (m:=firstArgMember _ _) (wpAny_of_eq (a:=Value.none) (by first | rfl | (simp only[firstArgMember];rfl)) ?_);refine ?u6;simp only[raiseNew];refine qa7 (wpAny_handled ?_)
 first | rw[show A.in1.handled=none from hn] | rw[hn]
 refine qa7 (qc6 (wpAny_throw ?_));exact k _ _ (((Heap.SameBut.update ..).extBut.push _).push _) ⟨_,?eP,rfl⟩
theorem jZ{z a b i1 i2 t1 t2:Addr}{n m:Nat}{xs ys:?j0}{x y u v:Value}[?pF](D:?sO z a b i1 i2 t1 t2)(gz:?BS ?bM ?c3)(ga:?U ?bM a ?iM ?hL)(gb:?U ?bM b u v)
 (g1:?mE i1 t1 n) (g2:?mE i2 t2 m) (e1:?mX t1 xs) (e2:?mX t2 ys) (gx:xs[n]?=?b3) (gy:ys[m]?=?eI)
 (k:∀h',?BS h' (rawInt ?w)->?U h' b x y->?kP i1 t1 ?c8->?kP i2 t2 (m+1)->?U h' ?w x y->h'.objs.size=?oK →
   (?BE ?nW)->Q (?dZ) ?nN) :
 ?v (?dK prog w) A (Builtin.«zip.__next__» ⟨[?k z],[]⟩) (fun fin s'=>∃r,fin=.done (.ret r)/\Q r s') E s:=by
 show ?AV (?gS ?hZ 2>>=_) _;refine qa7 (qh3 gz rfl (x:=?bP ?b7) rfl ?_);show ?AV (?gS ?hZ 3>>=_) _;refine ?BH ?S ?_;refine ?BL ga;show ?AV (Builtin.SmallTypes.ownedTupleIsFree ?hZ>>=_) _;refine ?dU;unfold Builtin.SmallTypes.ownedTupleIsFree;refine ?BH ?c3 (?eX);simp only[if_true];refine qa7 (?qM ?_);refine ?BH ?a3 ?_;refine qa7 (qi2 gz ?o fun k1 yU w1=>?_)
 replace yU:?BS k1 ?lJ:=yU
 refine ?dU;simp only[List.zipIdx_cons,List.zipIdx_nil,List.forIn_cons,List.forIn_nil];refine ?CT ?_;show ?AV (?nF ?iM>>=_) _;refine qa7 (Js (g1.extBut ?dE D.i1z) (e1.extBut ?dE D.l1z) gx fun k2 f1 w2=>?eX);have gb2:?U k2 b u v:=?eC _ _ D.TOi1 (?dE _ _ D.TOz gb);refine ?BL gb2;refine qa7 (?x5 gb2 fun k3 gb3 w3=>?_)
 replace gb3:?U k3 b x v:=gb3
 refine qa7 (?uF (?eX));refine ?CT ?_;show ?AV (?nF ?hL>>=_) _;refine qa7 (Js (((g2.extBut ?dE D.i2z).extBut ?eC D.i12.symm).extBut ?eQ ?yM) (((e2.extBut ?dE D.l2z).extBut ?eC D.l2i1).extBut ?eQ D.l2TO) gy fun k4 f2 w4=>?eX);have gb4:?U k4 b x v:=?i2 _ _ D.TOi2 gb3;refine ?BL gb4;refine qa7 (?x5 gb4 fun k5 gb5 w5=>?_)
 replace gb5:?U k5 b x y:=gb5
 refine qa7 (?uF (qc6 (?eX)));refine ?BL gb5;refine qa7 (wpAny_newTuple ?_);have sz:?BN k5.objs.size:=by rw[w5.1,w4.1,w3.1,w2.1,w1.1]
 have gz5:?BS k5 ?lJ:=?iT _ _ ?t0 (?i2 _ _ D.i2z.symm (?eQ _ _ ?t0 (?eC _ _ D.i1z.symm yU)));have kp:?BE k5.get?:=fun c o c1 c2 c3 c4 e=>?iT _ _ c2 (?i2 _ _ c4 (?eQ _ _ c2 (?eC _ _ c3 (?dE _ _ c1 e))));have f15:?q4 i1 t1 ?c8:=((f1.extBut ?eQ ?rN).extBut ?i2 D.i12).extBut ?iT ?rN;have f25:?q4 i2 t2 (m+1):=f2.extBut ?iT ?yM;have lz:z<k5.objs.size:=qb3 gz5;show ?AV (Builtin.SmallTypes.ownedTupleHandOut ?hZ ?yC>>=_) _;refine ?dU;unfold Builtin.SmallTypes.ownedTupleHandOut;have gz6:?BS (k5.push { cls:=?fE,data:=?aU #[x,y] }) ?lJ:=qa6 _ gz5;refine qa7 (qi2 gz6 ?o fun k7 gz7 w7=>?_)
 replace gz7:?BS k7 (rawInt ?iD):=gz7
 refine qi2 gz7 ?o fun k8 gz8 w8=>?_
 replace gz8:?BS k8 (rawInt ?iD):=gz8
 have up:∀c o,c≠z->k5.get? c=?r->k8.get? c=?r:=fun c o c1 e=>?s5 _ _ c1 (?yK _ _ c1 (?gO));have gt:?U k8 ?iD x y:=?s5 _ _ ?t8 (?yK _ _ ?t8 (?eP));have s8:k8.objs.size=k5.objs.size+1:=by rw[w8.1,w7.1,qi3]
 rw[sz]at gz8 gt s8;refine qc6 ⟨_,rfl,?_⟩;show Q ?yC _;rw[sz];exact k k8 gz8 (up _ _ D.TOz gb5) (f15.at fun o e=>up _ o D.i1z e) (f25.at fun o e=>up _ o D.i2z e) gt s8 fun c o c1 c2 c3 c4 e=>up c o c1 (kp c o c1 c2 c3 c4 e)
end
mutual
#check(4,[?a,?b,(?lD),spot,some,if_neg,if_pos,.ref,Nat->Int,(?cI),prodN,∀{t:?aJ},a,(i+1),?f ?c,List,wpAny,(-1),(t l),In.row,?g rfl,blendR,s.heap.objs.size,X.env,(n+1),addR,(t k),2 ^ b,moveR,∀(t:?aJ),a,(by decide),kv.1,(spot+1),.type,(j+1),.int,.none,(t j),RelV,.nil,Cn ne,s.heap,?f e1,∀(I:?r9),a,?h a,R j ?K,Good,h.zero,(A p),?g ?c,D i j hi hj,.(by by_cases e:j=k),.(by split<;>omega),∀(R B:Mat),a,p.1=k,2 ^ π,.cons,h.pos,.tup,I.hok,unit,?e o,(p+1),∀(hp:p<n)(hq:q<n)(ne:?cZ),a,∀(ms:?dY),a,∀{kvs:?aI},a,∀{P:Program}{w:World},a,T k k,(?iX),funext,A p c,?o (?j6),Nat->Nat,V.int,fun j hj=>?_,(?b6),∀{n W w i:Nat}{G:?iC},a,.(by intro z;cases z),.(by unfold moveR),r<=i,this,fun c hc=>?_,R r c,T' k k,?DD A,sumN_one,R p c,IsPair,decide,kvs.map,h.inc,H p=none,r<=n,(?b7),(c+1),.(by simp),qa9 _,(?lM),(A q),t ?d,∀{X:Cx}{Af:Bl}{σ:St}{H:Hp}{s:Shared}{a:Addr},a,∀{n p q:Nat},a,∀(n w:Nat),a,false,.fields,Gi ne,Oo.2,R j c,?o Expr,(t i),Al f n,(?c6).natAbs,ObjOk,s.heap.IsTuple,Oq kvs k,(by ext Z),?h ?v,.(by ext bU),∀{A:Around}{E:?t0},a,.(by simpa using hb),∀(a b c d:Int),a,(?c9-1),(?zH),r≠p,(-q),?f e2,(model ?iJ X.w),(fun r c=>R r (s c)),?g e,v ?K,"range",R l ?r,j<=i,R' p ?r,(n:Int),(π+1),(fun j=>T j ?K),(?f6),2 ^ (2*π+1),R' p ?K / ?S,b+i+3+2*π,?h b,cpos,qa1 _,.Call,"dict",(s l),?o Key,?k f k,(?g2),Value.ref,.inl,T j c,(pb R t k ?dC).natAbs,eval,spot<l,dd.typeIs,R k ?z,keep,starEach,p≠q,hst.lt,ZL d o,∀{kvs:?dR}{vs:?EM κ Value}(r:?dQ),a,∀(R:Mat)(p q:Nat),a,∀{f:?i},a,(?gA),Pv i zs τ H,call,?k f n,.dK [],call_meetsIn,.seq,(n-k),h.red,(R j),Sum.inl k,Part,h.old,(1:Int),?o V,Bv e,(a==sysModules)=false,"list",j=spot,?g e2,?f e,KV kvs vs,?EM κ V,k+m<i,Dg O9m,?k ?cB i,(mixKind P w),.(by grind),(?R),?o (?i5),R i c,hx c hc,(tr T),h.gc,(Gj R p),"zip",(r-1),h.low,(model prog w),?f z,?g e1,fun l h1 h2=>?_,[it],IsZip,R ?d c,fun j hj=>O9m,?iB V,(?sB),T i c,S.same,Pv ?m,R j ?r,Bits,R ?cO (t ?cO),fun j c hj hc=>?_,Bv ?c,(k+1),z.symm,?e x,.(by intro X hP hw hK hc i Af s σ H E I hf st hg;subst hP hw hK),∀(n W w i:Nat)(G:?iC),a,∀{Q:?t0},a,∀(e:?hQ),a,.(by refine qk1 ?mJ),.(by by_cases e:?a1),.(by exact True.intro),∀(ok:?zQ),a,.(by by_cases e:j=p),?a4 j O9m,x k*?cW,kvs[i]?=?e (k,v),(?h it),A r c,?h p,?iB ?jY,hst.zero,(?tI),(?iI),H.part.inc,(By A p u),?dZ=0,.(by simpa using e),(upd H' a ?aF),Hp->Prop,Shared->Prop,?k ?fA j,fun _=>0,.frz o ?aF,(?vK),(?nR).get?,qe8 _ _,?e _,Rd H a ?aF,Pv i σ H,?EM TE TE,?EM ?cM V,s1.heap.push,qc2 _ rfl,H d=?hI,H' a=?hI,(?g3).congr,j<spot,?k ?fA i,(?h z),Dj w r T' t,k+1+m,?s hj,kvs.length<=sizeLine,(qh1 ?mJ),insT t ?d st j,I.hok.fresh,(?k3 ry),?E=k,?B R i s,?k ?cB ?m,C3 ms k,pb R t k m,?g z,s.heap.get?,u ?b5,h'.get?,(?n6),G8 [] kvs,Al (fun i=>Sf i*A i 0*?qE) ?x,.(by simpa using e1),R' p c,(j-1),T k c,Array ?jY,AR ?a6 e,hst.ge,(n-1-k),fun k hk=>?_,∀(kvs:?dR)(k:κ),a,.(by rw[move_row];unfold mvI),∀{R B:Mat}(h:?w0),a,∀{R:Mat}(h:?eL n W b R),a,.(by by_cases e:?dN),∀{w r:Nat}{R:Mat},a,∀{R0 B0 R B:Mat},a,∀(h:Dj w r R t),a,∀(u v:?i),a,∀{i:Nat}{R:Mat},a,∀(h:?pV),a,ts[i]?=?e t,?e ob,(?fI).natAbs,Ng n w k T,pT n B R a b,t k=k,qj7 O9m O9m,?FB ?d st,?aV=0,qe7 ?D O9m,2 ^ 61,In.zero,(by rw[e];ext eY),?e (?fK),(?aT).natAbs,(?dT),Good.refl ..,?CK i j,h1.2.2.2.1,i<=kvs.length,fun _ _ _=>rfl,H a=?e ?aF,?gF b=?a8,h1.symm.trans e,?cF+spot*?cA,?FB r c,c<=?bA,.Name,fun r l=>R r (aD t k c l),h'.IsTupleIter,?uY->?gH c=?a8,hfresh,Ed K H a xs,fun j c hj=>O9m,Ne.symm,(?EX h O9m),Int × Int,up c _ q ?iD,.(by decide +kernel),(?bE,?cT b ?w),base l h1 h2,?f (?AF),Option,Nat->Prop,(by ext aO),.(by simp;omega),blend_row_p ne,h3.get?,Vw kvs k,fun l=>?c6,X.prog,A.handled=none,(tr Nc),(kvs.any ?oQ),fun b hb=>?_,(?vZ),upd H a (?fK),(0:Int),Ed K H b ys,?k (?DG ?K) r,2 ^ (j-f)*μ*?bM,?d8*f n,D.nx σ H,[e,f],.dK kvs,(?wY),2 ^ e,h.good.trans,.(by ext kM),(-(?D4 m (t ?cO))),s.heap.push ?vC,St->?fG,H b=?e u,Key × V,?o (?tA),?a2*?bM,?L y u,(u l),h c hc,hst.pos,{ s with heap:=h',toks:=tk },ms.map,I1.kept,2 ^ (c+b),hst.inc,fun k _=>?_,?bX+1,(?S).natAbs,(?wM),?G "tuple",?G ?e4,.builtin,{ s with heap:=h' },Al _ ?x,(?h i1),(K:Int),I.laid,(?uN),∀i c,?aQ->?tE,lo<=n,fun r c hr hc=>?_,Value,?f a1,fun p=>?rB,(?mM),?aE=0,kV_is,[z,TI,TO,i1,i2],I.bare,[a,b],(by kernel_rfl),h _ O9m,?g a1,Itd hi n,?sK*h,fun _ _=>rfl,?D1 1,?eM*?gD,prs.drop,∀{t:?aJ}{π b spot:Nat}(H:?mV)(h:?xM)(hs:spot<i),a,∀{kvs:?fS}{xs:?oS}(r:?xH),a,.(by repeat (first | rw[?t] | rw[?l7] | rw[?f ne'])),.(by obtain⟨z,hd,vs,rel,dd⟩:=eS ?a6 e),.(by refine⟨?aL,?aL⟩),.(by exact(show False from r).elim),.(by rw[←rel.length];exact z),∀{a b c d:Int}(h:a*d-b*c=1),a,.(by refine Ao ?A9),.(by refine Bj ?sQ),∀(h:Heap)(a b:Addr),a,∀{R:Mat}{p q r:Nat},a,∀(hi:i<n)(hs:s<=i),a,∀{n p:Nat}{A:Mat},a,∀{R B R' B':Mat},a,∀{X:Cx}{pos:Pos},a,fun k hk=>O9m,hst.lead,if i=j then 1 else 0,?e2 r c hr hc,h.s0.inc,h.col0,?G ?dM,fun c xs q=>?i6,kk b ob hb z,valueAt,y.natAbs<=?a2,?f ne,.Attribute,Ec (?CR l spot) (?CR l i),Al (fun j=>a j*U j c) m,.(by simp[hlt]),Paired,.(by omega),its.toArray,.bool ?bE,(κ*D),?dG R t f m,R i (w+c),?g e3,?a7 (?gB) i d,D i i hi hi,mixKind ?iJ X.w,G8 kvs more,?D1 4,(i-1-k),?E7 h.pv,R i ?z,t j<t k,"keys",qu2 ?_,tPairs,2 ^ (z-2),?D3 p,Ep n w T T',?DD (F8 A p),?DD (F8 A ?a9),.(by simp<;>omega),H b=?e (?a5 (k.map kV)),"dict.update.loop",?g a2,?D4 m ?r,Ma kvs k v,?u4 e2 e3,i6.zero,?a4 j hj,fun k hk hne=>?_,Dd e c,qq4.mp,ia.toArray,c<t j->?bI=0,2 ^ (zz-2),w1.extBut,?CS R' B',kk c o hc e,fun z=>?_,T i d*X d j,?D1 2,h r c hr hc,?l5 vs k,?a7 e j j,addR_row_ne,Nc k l,2 ^ ?cA,{ cls:=?G "dict_items",data:=?bF #[?h d] },?f a2,?DY p (?a5 [kV k,v]),J4 n W w i G R0 B0 t π b,In.sum,?o (?iB Expr),s2.bwd,D j j hi hi,S1.same,.(by rw[h,qd1]),Int.mul_pos,?D3 i,xs[i]?=?eR,(i-1-j),fun r l=>R r ?r,(?g3).mix,∀j,j<r->t j=j,(i:Nat),?B B i ?d,Rd H a (.dT kvs),?dJ->Hp->VK->Prop,?ES R v,[a,b,c],?L (kV k) u,(zt4 ?O a b).objs.size,?cJ (?hW ?c5 q) [a] [] pos2,?E6 j μ,?k (fun l=>f (k+1+l)) ?gS,(?bE,?cT a ?w),?k ?cB ?eP,fun h' gZ hs=>h _ ?_,?k f ?x,up b _ q ?iD,?I (hi-i),?FH ?v3,WB ?O a b,Heap.SameBut,fun b o e=>?DK e,I2.thaw e2 hb,Iq n w r e T,?cT e ?w,r=spot,(?fZ).natAbs,values,⟨y,H2,I2,ry,q2⟩,#[key,p.2],?k ?cB r,?T n W w ?m R0 B0 R B,kvs.length,(?D4 ?dC c).natAbs,x.natAbs<=?a2,(i:Int),s.TypeIs,C3 ns j,ys[i]?=?e y,qa7 ?_,ib.toArray,?D1 3,∀j,j<r->t j<w,?f e4,?kX hx k kr v0,?k _ m,?I 0 0,Al (fun j=>(?c4*?fI)*?s2) i,((0:Nat):Int),Nc k k,id hin,?f e3,stored,h n O9m,fun kv=>?aZ (?g9),fun x H' y=>?_,?o (?cM × Addr × Value),tupleKind,?o ?jY,∀(D:?t9 z a b i1 i2 t1 t2)(gz:?eC ?O z a b ?J)(ga:?FA ?O a)(gb:?aY ?O b u v),a,∀(g1:?vU i1 t1 n) (g2:?vU i2 t2 m) (e1:?bO t1 xs) (e2:?bO t2 ys),a,.(by have D:∀i j,i<n->j<n->?z8=?kY:=h),.(by have he:?uA:=?pW),.(by obtain⟨σ',H',I2,e2,q⟩:=hq;exact⟨σ',_,?nU,q⟩),.(by rw[?n,?n,?n]),.(by exact ?EL x0),∀{z a b i1 i2 t1 t2:Addr}{n m:Nat}{xs ys:?gP},a,.(by rcases hc with rfl | rfl | rfl | rfl | rfl),.(by have e':¬q.1=k:=?x8),.(by rw[?n,?t]),.(by simp only[qb7,qe5,or_false]at hc),.(by rw[?c0,?n]),∀{Q:?f7->?fH},a,∀{y:V}{u:Value}(ry:?j9),a,.(by obtain⟨ok,ov,hit⟩:=st),∀{n w r:Nat}{e:Int}{T:Mat},a,∀{vs:?j7},a,∀(xs:?dJ)(H:Hp)(Q:VK),a,∀{prog:Program}{w:World},a,∀(ns:?dY),a,∀(e:?fP),a,∀(p:Nat)(u:?i),a,∀(ry:?nF),a,R' j c=?bI,[?R,?cG],Paired.snoc,B q x*R q y,g3 q u hqw i6 OR,kvs++more,pD n w R B i j,c3 r t gQ hst hz,q.natAbs<=?a2,.(fun b u q n z=>by rw[z,e]at q;exact n (qe1 q).symm),hl i zs τ H hi pp,?fZ*v c+?q*?oJ,Ip i R t,let ⟨q,_,_,hq,_⟩:=gZ;?rU,s1.heap.IsTuple,D j j hj hj,Nat->?t4,b≠s.heap.objs.size,h _ _ ?vV ?_,PE X o td,fun σ2 H2=>tb { D with nx:=?eJ,ct:=?eJ,bk:=D.nx } σ2 H2,fun j hj hne=>?_,fun r c hr=>Dd O9m c,DecidableEq,⟨_,tH,rfl,rfl,_,rfl⟩,mvI i s r,I1.tuple,∀r c,?bY->?xY,c*R p k+d*R q k,h _ _ ?bQ O9m,[?R,u,r],?DD (F8 A i),{ s with heap:=h1 },h.s0.zero,ts.length=kvs.length,(?gM).natAbs,⟨n,?b6,?b7,h0⟩,?EC (S7 c _ q),(mixKind P w).is,QF R vs H1,qi4 ?g5 (i6.ge k zV),?D4 m ?z,?D1 5,⟨o,ho,r⟩,?aZ (p.1≠k)=true,Al (fun k=>T c k*X k i) r,.(by simp at h),.(by simp[Oq,ql6,e]),Builtin.Range.rangeSize,.(fun v q=>by ext C3),Gl X ?c5,?a3 ?_ ih,PY Q vs H1,.(by ext C1),JW R x H1,ob.slots,?dH ?d _ ?j hs,Paired.length,(?r7).natAbs,0<=R k ?K/\R k ?K<?S,?k ?fA k,?CT ?e7 (pyNext ?g0),?D0 H s,Al (fun k=>f k+-1*g k) n,?aZ (?a1),?F5 T e,h.st.zero,.(by rw[←hz2];exact ?fN),X.A.units+1<cLine,∀ob u,X.H₀ a≠?e (.frz ob u),(?FH ?x4),?D0 (upd H a (.dK (?iH))) s',zt3 h a b,pF ?a6 e,(?AY).natAbs,∀l,l<k->T k ?r=0,I.turnedN,h.s0.pos,h3 r t gQ hst hz,IsDPut D σ v x y H3,h.IsTupleIter,fun j hj=>?g3,(?tX,?aK p.2),⟨q,hq⟩,?D0 H s',PySem.F.args_dict_pop_3 _ _ _,Ec e e2 a b c d k,?EV e,?u R p j a b c d,fun d _=>?_,?DK (?fU),Qz R t j ?n5 c,i<n->?wQ,fun kv=>(kV ?E,kv.2),ql0 pk d2,atKey (q::qs) k,fun c _=>?zE,.(by simp at e),hst.only,o.data=.dict es ep,?y R p q k,?aW hr ?mA,⟨t,rfl⟩,s1.toks+1,"dict_itemiterator",.(fun v q=>by ext C4),∀i c,i<n->r<=c->?wQ,⟨i-1,O9m⟩,skip_prod,2 ^ (2*π),atKey xs k,R i (?bA),(apos.endLine==cpos.line)=true,fun r c hr=>Ec O9m O9m _ _ _ _ c,a m*U m c,fun l hl=>?_,wpAny_callSpecial?_slot,?y R j q k,Ng n w k Nc,I.tuple_inj,Ag6 j hj e,?qL k u=true,bd r c hr hc,.(by rw[Ak (S7 b _ z)];exact z),?U j c hj hc,?jY->?fH,c ∉ ?k4,c<w->T' i c=0,?o (?vJ),Nat->?j4,acc'.toList,r.repl k ry,congrArg,h3.IsTupleIter,ZipApart,Key × Value,?DY ?v (?a5 [kV k,v]),By A p ?b9,0<=?c8/\?c8<?c6,i<n->?t2,i≠j->T i j=0,prs[i]?=?e p,.(by rw[qd1]),?u R p q a b c d,entryFor,∀j,j<i->t j<W,∀j c,j<i->?mE,fun d hd=>?_,hnew.typeIs,?e2 c hc,?DK (?v1),fun c=>- ?aH,?jC j hj,{ s with heap:=?j3 },2 ^ (π+b),kvs++[p],.(show b+c+1=(c+b)+1 by omega),hx k ?c,(Sum.inl p.1:Key),FG xs H Q,?gF b=?h6,.ellipsis,wpAny_typeOf,wpAny_attempt,w3.extBut,blend_row_ne,?cT o ?w,∃xs,?xH/\h.DictOfH (?oT ?dV) a xs,fun c hcw hne=>?_,Ec h1 h2,B p x*R p y,∃q,?gH a=?e q,?DY ?v (?a5 [x,y]),Int.natAbs,(?sL).isSome,(?aX).natAbs,Al (fun k=>B k a*R k b) n,fun c=>?aH+k*A q c,?DN e,PySem.F.entry_dict_get,∀i,i<r->?E2 e,.(fun c _=>by ext aP;rw[?e9]),?DF w,g x σ H' fun σ2 H2=>tb { D with nx:=N,ct:=N,bk:=D.nx } σ2 H2,Ma kvs p.1 p.2,"StopIteration",PySem.F.slot_dict_items,.(show i=s by omega),(?bP).isSome,(?s O9m),.(by unfold mvI;split;omega;split;omega;ext Z),.(by simp[e]),items[i]?,?R::u::more,?FH ?yT,?gF c=?a8,i<kvs.length,c1.2.2.2.1,?DK (?s1),fun b u q=>?_,a*u c+b*v c,jV xs H Q,.(by rw[Ak (S7 c _ e)];exact e),k.natAbs<2 ^ c,zero j c hj hc,(zt1 ?O a).objs.size,hst.mono,JQ n w k Nc,D i p hi hp,{ cls:=?G ?cK,data:=.dict #[] },I.turned,zt2 h a b,?k ?cB (d+1),h.st.inc,ht j O9m,ItDGet2 ty tx σ Q x H1,KT × Value,?DN ne,?s (R:=Gj R j) hj,?bW+?oK*?q,items[i],By A p ?V,?gR k hlt,?DY p (?a5 [x,y]),?EC (S7 c' _ q),hd zs τ H pp,fun j c hj hcw hne=>?_,s.heap.IsTupleIter,(I.tok _),upd H a ?aF b,(?CZ t).objs.size,(?FH ?AG),?B R i ?d,Fr n w R B,?a7 e j c,GO ?a6 eb,key r t gQ hst hz,(?jO ?yD),kvs.length<sizeLine,∀j,j<i->0<?S,?l5 (q::qs) k,?a6 a _ e,∀k,k<j->v ?z=0,tl _ ?j,(zt3 ?O a b).objs.size,xs[n]?=none,(?gJ).length<=sizeLine,?DB 1,hk1 _ _ hoD,spot≠i,(?oT ?dV).is,⟨h1,h2⟩,hp j O9m,(?c4).natAbs,h.objs.size,fun r l=>R r ?cL,fun l=>?eK,?k (fun k=>f ?eP) n,⟨rfl,rfl⟩,c<w->?eH=0,?qG j c hj hc,By ?fC q v,?e6 (j:=?g2) (l:=l) ?c ?c,fun i j=>T j i,(?DO ?gA).congr,?bO a xs,∀j,j<r->?ES T ?zZ,I.ok.hd hc,?EM V V->?fG,.(fun c _=>by rw[Bv ne,Bn,Bn]),hx j ?c,(zs++[y]),?EF ?eD ?A,?D4 m (s c),.(by ext BU),hk1 _ _ ZW,Dj w r T t,fun z=>e (?AV z),.(by simp at hl),fun i j hi hj hne=>?_,h1.DictOf,Good.add,I.base.frzs,F.entry_zip_next,qD K R vs H1,Mc kvs [],KT H kvs xs,hz c ?c,⟨kvs,kvs[i].1,kvs[i].2,q,?lB⟩,ih ?c ?c,IsRangeIter,Dt n W w i G R0 B0 t π b ?d R B,?a6 b _ e,show ?CK i p from ?P,fun k=>?qB,cF n*B ^ n,∀j,j<i->G ?K,hk c o n1 n3 n4 n5 e,k3 c hcw,Gi ne a b c d k,i=kvs.length,{ cls:=?G "tuple_iterator",data:=?bF #[?R,?oI] },Nat->?i,R' r c=?aT,qb4 (h r x hr hx) (?hE),?DL r,(Hw ms k),h.hd j hj,Ip ?m R t,?EA hc',∃t,u=Value.str x t,D q j hq hj,?g (?hS),?k ?cB m,?k (fun l=>f (k+1+l)) ?dC,fun hr=>?_,?FB ?d c,A.units+1<cLine,"dict.pop",r≠spot,?bO b ys,if i=j then e else 0,PySem.F.slot_dict_delitem,JV xs H Q,(keyPart u).isSome=true,⟨?o4,?b6,?b7,h0⟩,?D0 H' s',⟨1,by rw[z];omega⟩,k*R q ?cL,?g4/\?dL/\∃vs,?dQ/\h.DictOf ?dV a vs,X.mg ?c5=none,.(by rw[(hf c hm).1]at e;cases e),∃t,u=Value.int i t,?u R j q a b c d,R ?cO (s c),{ s1 with heap:=?fT ?mS },i6.pos k zV,fun _=>?iQ,Shared.heap,⟨kvs.length-?m,O9m,rfl,hlt,p'⟩,attributeBase,?aZ (q.1≠k)=true,.(by simp[atKey,ql6,e']),h.s.same,?dH j c O9m hji,Unit->?fH,∀c,c<?bA->?fD,(zt2 ?O a b).objs.size,fun τ2 H2=>tc τ2 H2 fun b H3=>if b=true then te τ2 H3 fun y H4=>H4 D=?e (.lst zs)/\zs.length<sizeLine/\Pv ?m ?x2 τ2 (upd H4 D (.lst ?x2)) else Pv ?m zs τ2 H3,?F7 (R i) (B j),s2.keep h1.flip,.(by rw[Gv,Gv]),(?j0 g).trans,⟨kvs,q,?cI⟩,Nc (u k) k,.(by unfold Gj;rw[Bn];omega),fun k=>?AQ,vs.any ?oQ,if p<i then p else p-1,⟨_,?fU,rfl,rfl⟩,X.calm=true,(ql9 ?_),R ?d (?bA),.(by show ?iQ<1;decide),fun b ob z=>?DK z,.bl true,?dH l _ ?c h2,Q2 P w H h,(y kvs q),?rO j hj,∀i c,?aQ->?s3,(x,y)::ps,(?bE,?cT c ?w),(?s hq),?o Keyword,.(show n+1-1-k=n-k by omega),(?a7 e j),?eI j _ e,?x*cF n,.Subscript o i pos',W i m σ H,wpAny_Call_method,(?m6).length,Heap.IsTuple,fun r c hr=>Bv O9m c,(R p ?r).natAbs<=μ*?bM,fun i hi=>?_,?DB 4,fun r c hr=>?_,R0 j ?K,?cX j c ?c,.(by simp[valueAt,ql6,e']),?DN e2,1*?aX+k*R q c,backTo ?cH (?cY ?iW ?w),Heap.DictOf.new,fun b u q n=>?EC (ne b u q n),In w r R v,(?fT ?mS).objs.size,Oq (p::r) k,D j i hj hi,Qz R t j ?n5 (t m),hf it ?aM,a*R p k+b*R q k,IsItemIter,hx k hkn,IsD H1 a,Al (fun j=>(Al (fun d=>?mK) r-(?yG))*?cR) r,h1.trans,PySem.F.entry_dict_pop,?bP=none,R ?d ?r,(?cE).natAbs,h'.DictOf,.(by intro i s acc hn hi hz hd hit hb k;refine codeAny_builtin Vv ?_;rw[Around.under_plainId Ll];have hLs:s.heap.IsList l items:=let ?qQ:=hL;⟨o,hb _ _ nld nli ho,r⟩),.(by obtain⟨r0,r1⟩:=H.part.red ?d l ?b4 h1 h2;rw[←?r3,←?zP]at r1;rw[←?r3]at r0;have p:=?a4 l h2),.(by obtain⟨x,H1,I1,rx,a,ex,d,q1⟩:=_z;subst ex;obtain rfl:u=?cP a:=rx;obtain⟨t1,t2,_⟩:=oQ I1 d;refine⟨t1,t2,?_⟩;rw[m.trees]),.(by exact(?a6 b u q).stay (fun _ _ _ q=>q) (fun c q=>?i6) ?l3),.(by refine⟨?cV,fun b q=>?_,hd⟩;cases q;obtain⟨ob,_,_,h1,h2,_⟩:=dd;exact⟨ob,h1,h2.2.1⟩),.(by have z:?FE q:=fun w=>Ff hp hq ne ?x0),.(by obtain⟨g,hg⟩:=ihm O9m;exact⟨g*T m (t m),by show ?oH*T m (t m)=_;rw[hg,qe6]⟩),.(by show ?eM*?m5+?j2*R ?cO ?r=0),.(by exact Tl I ?hH hs he (U3 (qa5 (ER kvs k) z) hd (rel.drop k) gZ)),.(by have zb:?cF+?F*?cA=(?hT)+π+1:=by rw[qf8];omega),.(by obtain⟨ho,hsys,hl,vs,es',zA,rel,hd',hsz,ex,hm⟩:=GV I hz;rw[hd]at hd';cases hd'),.(by rw[show ?mQ=0 from ?m8 l k hl (qb4 z (i6.mono k l ?c hl))];simp),.(by simp only[qb7,qe5,or_false,not_or]at hc;obtain⟨n1,n2,n3,n4,n5⟩:=hc),.(by obtain⟨ia,ra,pa,_⟩:=I.tuple Wj;obtain⟨ib,rb,pb,_⟩:=I.tuple lI),.(by have e1:=a2 hlt;rw[htk]at e1;have pk:=?jC k hlt;rw[htk]at pk),.(by have hl:?A5<=sizeLine:=by have:=Pn kvs k v;omega),.(by obtain⟨t,q⟩:=(show ?yR from ry);subst q;rfl),.(by obtain⟨t,q⟩:=(show ?y5 from ry);subst q;rfl),.(by rw[?f8 l k hl (qb4 z (?v9 k l ?c hl))];simp),∀{g:TG}{tb:TS}{D:Ends}{σ:St}{H:Hp}(Pv:?t4)(h0:Pv 0 σ H),a,∀(hc:?sH)(Lo:?wX),a,.(by have d:=H.hd l h2;rw[←?zP]at d;omega),.(by intro Af s σ H xs us Q I r h;obtain⟨a,kvs,rfl,e,q⟩:=h),.(by rw[←?N,←?N,←?N,←?N,z u,z v]at e0;omega),∀{n W w lo p q:Nat}(R B:Mat)(hp:p<lo)(hq:q<lo)(hn:?jW)(ne:?cZ),a,.(by have hfresh:H ?v=none:=?g7 ?j),∀{x y z u:Int}(e:JX π (?zL) (?sM) x y z u),a,.(by rw[?bG,Ja];have:R j k=(a*d-b*c)*R j k:=?n1),∀(h:?pV)(ht:?tK){v:?i}(hv:In W i R v),a,.(by rw[?dH ?d c ?j hs];exact H.rw ?d c hs hc),.(by exact⟨f.2.2.2.1,f.2.1,f.2.2.2.2.1,f.2.2.2.2.2⟩),.(by have hn:es.size=vs.length:=by rw[hsz,rel.length]),.(by have d1:?aU∣ ?aE:=⟨x k,by rw[e1,qf7]⟩),.(by have ht:?o8 ?g0 ?e4:=(?E8 gz)),∀{g:TG}{tc:TT}{te:TE}{D:Addr}{Q:?fG}{τ:St}{H:Hp},a,.(by obtain⟨f0,f1,f2,f3,f4,f5⟩:=?AP),.(by rw[Ak (fun z=>by rw[z,e]at n;cases n)];exact n),∀(hst:?x7)(hz:?zT),a,.(by cases (show Data.fields _=Data.cell v from q)),.(by cases (show Data.seq _ _=Data.cell v from q)),.(by exact I2.fpOk ?j (I2.hok.fresh ?j)),.(by have:=?fB j ?d ?b4 O9m hs;omega),.(by obtain⟨hz,hTI,⟨u0,v0,hTO⟩,h1,h2⟩:=st),.(by rw[?dP,?f (?x8)]),.(by show ?p _ _ (pyNext ?f4>>=_) _ _ s),∀(Pv:Nat->?dJ->?j4)(h0:Pv 0 [] τ H),a,∀{w n:Nat}{R:Mat}{u v:?i}(hu:?ES R u),a,∀(ho:?q2)(he:PE X e ty)(hf:PE X f tx),a,∀{K:W.Frag}{es:?bJ}{x1:Nat}{tpos:Pos},a,∀(h:?xM),a,∀(ts:?o Addr) (kvs:?aI),a,∀{n w k:Nat}{T Nc:Mat}(s:Vb n w T Nc),a,∀{p:κ × V}{r:?dR}{k:κ},a,∀(R:It->?fG)(vs:?dJ)(H1:Hp),a,∀(e:H a=?hI),a,@((if ?a=?b then ?dI else 0)=0),@(?u2 (?sR (name:=Str.ofString "__next__") ht qv6 (ql1 qv6 ht ?xE ?a (F.args_zip_next_1 _)))),@(?a (if l<k then l else l+1)),@(?p _ _ ?a _ _ _),@(∀l,?cU->l<i->(?u R ?d i x y z u ?a ?r).natAbs<=?cD*(?u R ?d i x y z u l ?r).natAbs),@((∀σ' H',N σ' H'->∃m',m'<m/\W ?m m' σ' H')/\∀x H',(?a).yld i H x H'->?uM),@(∀c o,c≠z->c≠b->c≠i1->?a≠i2->?hZ),@(show ?a≠?b by omega),@(?T n W w lo R B ?a ?b),@(?p ?a A ?b Q E s),@(qa7 (qh3 gz rfl (x:=?a) rfl ?b)),@(?A4 m.base m.few m.line qs4 ?a ?b (Du (ho Af s σ H _ I h) fun u s1 _z=>?_)),@(∀(i:Nat) t,?h5->∃kv:?j6,kvs[i]?=?e kv/\H ?a=?e (?a5 [kV ?E,kv.2])),@(fun kv=>if ?g9 then ?a else kv),@(fun m hm=>?a R O9m O9m ne ?b),@(?fT { cls:=?G ?c5,data:=?bF #[?I ?bW ?a,?I ?q t',?I ?q t''] }),@(Bp X Af σ ?a ?b),@(s.heap.objs.size+?a),@(?a<s.heap.objs.size),@(A (if r<?a then r else r+1) ?b5),@(Qz R t k ?a ?b),@(Dt n W w i G R0 B0 t π b ?F ?a ?b),@(?a Af s2 σ H2 _ I2 q2),@(?a Af s1 σ H1 _ I1 q1),@(Al (fun l=>(T l ?bK*?dU)*(if d=l then 1 else 0)) ?a),@(det n (By A p ?a)),@(show ?a<i+1 by omega),@(s1.heap.objs.size+?a),@(fun σ' H'=>?fW/\?a σ' ?fF),@(det n ?a),@((if r<?a then r else r+1)=p),@(Al (fun k=>(if k<r then X k i else 0)*T c k) ?a),@(fun j=>T' j ?a),@(by rw[show ?a=(?b-2)+2 by omega,qd8];simp;try omega),@(PE X (?cJ (?l8 o ?a apos) ?iW [] ?cH) (?b td ty tx)),@(By (By R j (?a ?H)) ?H ?dE),@(qa6 _ ?a),@(Al (fun k=>x k*R k c) ?a),@(?fB ?a (k-1) ?b4 O9m O9m),@(fun z=>?a ?eQ),@(?s (R:=?a) hj),@(?m8 c k ?a (by have:=i6.inc k c O9m ?b;omega)),@(Fa ?a u v 1 1 ?b),@(?f8 i ?a e3 (by have:=?jH ?b i O9m e3;omega)),@(.Tuple ?a x1 tpos),@(qk5.mpr (?i3 (qc9 ?a))),@(by rw[qd8];exact qp8 ?a ?b),@(.inr ⟨?a,?eJ,fun ys' τ' H' p'=>?b,?oR⟩),@(v6 n W w i G R B t b p ?d μ ?a R' B'),@(?a (fun p=>if ?a1 then(p.1,v) else p)),@(upd H ?a ?b),@(ta σ H fun vs H1=>?a),@(fun r c hr=>(?a r c hr).trans (?b r c hr)),@(MO W n R ?a),@(In n w ?e1 (?a7 ?a i)),@(?u R p q a b c d ?a k),@(?iG ?v=?e { cls:=?jM,data:=?dB #[?a,?b] }),@(?bN P w H h a ?a),@(2 ^ (?a-?F)*?b*?A),@(?a l O9m h2),@(⟨_,?a,rfl⟩),@(∀c,c<n->?aH=A ?a c),@(kk _ _ (g7 _ _ ?a) q),@(fun m hm=>?a ?b O9m),@(by rw[Ak ?a];exact q),@(?cJ (?hW ?a p) ?b [] pos),@((det i ?a).natAbs<=D),@((?a).natAbs<=?b),@(?a R p q a b c d ?b),@((iK ?a).map ?aK),@(⟨rfl,?rN (t':=s.toks) (fp:=?a) ?b hf⟩),@(qc6 ⟨plainId_quiet Ll ?a,?_⟩),@(by show(?a:Nat)<=sizeLine;decide),@(Bj fun l hl=>by rw[?a l ?c];simp),@(?o (?a × ?b)),@(?f fun y=>?a y.symm),@(pT n ?a ?b a b=?h9),@(kk _ ?a (fun q=>(hf _ q).2.1 rfl) ?b),@(by have:=?jH k ?a hl1 hl2;omega),@(T i d*(if c=d then e else 0)=?a),@(In w n ?a ?b),@(show ?a ?b ?oC from pb),@(show ?a ?b ?mD from pa),@(qc9 (qb3 ?a)),@(fun m hm=>(?a m hm).trans (?b m hm)),@(fun k hk=>?a k ?b),@(fun j hj=>?a ?b O9m),@(PySem.F.args_dict_get_3 _ _ ?a),@((?oE)/\∀j,r<=j->j<?a->w<=t j),@(?a j c O9m hcw hne),@(∀zs τ H,Pv ?a zs τ H->Q H),@(T k ?bK*?a*(if d=k then ?b else 0)),@(∀r c,?aQ->G c->?hJ<=2 ^ ?a),@(∀j,j<r->?a j j∣ ?b),@(fun c _=>by ext aP;rw[?P,?c0,?a]),@(dot n w ?a ?b),@(by rw[←l];exact rel.val ?a),@(Fa (By A q ?a) ?V ?b9 a b hp),@(?aY ?a ?b ?jR (?h i2)),@(?B R i ?d ?a ?b),@(?u B p q d (-c) (-b) ?a),@(qn1 (Du (?D6 hf) fun fv s3 ?a=>?lU)),@(∀w:?i,?DD (By (By A p w) ?a w)=0),@(?a (t':=s1.toks) ?b),@(?DD ?a=- ?DD (By (By A p v) ?b u)),@(fun c=>?a),@(?a Af s σ H _ I h),@(∀p,?b2->Q ?cC (?DY p ?a)),@(?aG (?FH ?a))])
theorem MQ[?p2]{u v:Value}{Q:PySem.Fin->?fH}(hn:?iK)[?oV]
 [?oW] (gx:?wC)
 (k:∀h' e,(?CQ c)->(∃o,?gH e=?a8/\o.cls=?G ?uO)->E (?h e) ?jP) :
 ?CT ?e7 (Builtin.«zip.__next__» ⟨[?h z],[]⟩):=by
 show ?CN (field ?g0 2>>=_);refine ?CU ?lF ?_;show ?CN (field ?g0 3>>=_);refine ?CU ?R ?_;refine qa7 (qm8 ga rfl ?_);show ?CN (Builtin.SmallTypes.ownedTupleIsFree ?g0>>=_);refine ?oB;unfold Builtin.SmallTypes.ownedTupleIsFree;refine ?CU ?J (qc6 ?_);simp only[if_true];refine qa7 (wpAny_rule ?_);refine ?CU ?cG ?_;refine qa7 (qi2 gz ?aM fun k1 yU w1=>?_)
 replace yU:?eC k1 z a b ?u0:=yU
 refine ?oB;simp only[List.zipIdx_cons,List.zipIdx_nil,List.forIn_cons,List.forIn_nil];refine qa7 (qa7 (wpAny_onRaise ?_));show ?CN (Builtin.SmallTypes.nextOf ?jR>>=_);refine qa7 (Pl hn (g1.extBut ?mG D.i1z) (e1.extBut ?mG D.l1z) gx fun k2 e w2 he=>?_);obtain⟨oe,ge,ce⟩:=he;have gz2:?eC k2 z a b ?u0:=w2 _ _ D.i1z.symm yU;have ne:e≠z:=fun q=>by subst q;rw[gz2]at ge;cases ge;simp at ce
 refine qi2 gz2 ?aM fun k3 _ w3=>k k3 e (fun c o c1 _ c3 _ q=>?u3 _ _ c1 (w2 _ _ c3 (?mG _ _ c1 q))) ⟨oe,?u3 _ _ ne ge,ce⟩
theorem Yi[?p2]{x y u v:Value}[?p8][?oV]
 [?oW] (gx:xs[n]?=?eR) (gy:ys[m]?=?e y)
 (k:∀h',?eC h' z a b (rawInt ?v)->?aY h' b x y->?hY i1 t1 ?x->?hY i2 t2 (m+1)->?aY h' ?v x y->h'.objs.size=?kD →
   (?CQ c)->Q (?e (?bR)) ?jP):?r8:=by
 ext BY
 unfold pyNext;exact qa7 (?CL (jZ D gz ga gb g1 g2 e1 e2 gx gy fun h' a1 a2 a3 a4 a5 a6 a7=>qc6 (k h' a1 a2 a3 a4 a5 a6 a7)))
theorem g8[?p2]{u v:Value}[?p8](hn:?iK)[?oV]
 [?oW] (gx:?wC)
 (k:∀h',(?CQ c)->Q none ?jP):?r8:=by
 ext BY
 unfold pyNext;refine qa7 (?CL (MQ hn D gz ga gb g1 g2 e1 e2 gx fun h' e kp he=>?_));obtain⟨o,q1,q2⟩:=he;exact qa7 (wpAny_isInstance (T:=?uO) (b:=true) ⟨o,q1,q2⟩ isSubtype_stop (qc6 (k _ kp)))
universe e9
noncomputable abbrev zt1(h:Heap)(a:Addr):Heap:=h.push ?xW
noncomputable abbrev zt2[?kQ]:Heap:=(zt1 h a).push { cls:=?G "tuple_iterator",data:=?bF #[?cG,?oI] }
noncomputable abbrev zt3[?kQ]:Heap:=(?vE).push { cls:=?jM,data:=?dB #[?h ?wL,?h (zt1 h a).objs.size] }
noncomputable abbrev zt4[?kQ]:Heap:=(?rJ).push { cls:=?jM,data:=?dB #[?J,?J] }
noncomputable abbrev WB[?kQ]:Heap:=(zt4 h a b).push { cls:=?jN,data:=?bF #[?J,?lF,?lF,?h (?vE).objs.size,?h (?rJ).objs.size] }
theorem mQ(a b:Addr)(xs ys:?gP):Meets (Builtin.«zip.__new__» ⟨[?jN,?R,?cG],[]⟩) (fun _ R s=>?wW/\?yF/\R (.ok (.ret (?h ?nG))) { s with heap:=?nR }) :=
 .of_wp fun prog w A R s h=>by
  obtain⟨hp,g,d,tk,os⟩:=s;obtain⟨h1,h2,h⟩:=h;have hsub:=sub_zip;have g1:?A6 (?yX ⟨hp,g,d,tk,os⟩) a xs:=h1;have g2:?A6 (?yX ⟨hp.push ?xW,g,d,tk,os⟩) b ys:=Heap.IsTuple.push h2 _
  wp_walk using qn0 g1,qn0 g2
  exact⟨_,rfl,h⟩
section
variable[?pE][?bT]{s:Shared}
theorem MB{a b:Addr}{xs ys:?gP}[?eU](h1:?wW)(h2:?yF)
 (k:∀h',?eC h' (?lO) (?mL) (?oD) ?J->?aY h' (?mL) (?bR) (?h (?kD)) →
   ?aY h' (?oD) ?J ?J->?hY ?v a 0->?hY (?kD) b 0->h'.objs.size=?qP →
   (∀c o,?hZ)->Q (?h (?lO)) ?jP):?CT ?e7 (?d7 (?jN) ?pK):=by
 refine callType_new F.called_zip ?D (F.typeCall_zip_2 _ _) (F.newCall_zip_2 _ _) (fun obj=>F.args_object_init_3 obj _ _) F.entry_zip_new (mQ a b xs ys) ⟨h1,h2,?_⟩;have z1:?v8=?kD:=qi3 ..;have z2:?z6=?mL:=by rw[qi3,z1]
 have z3:?wB=?oD:=by rw[qi3,z2]
 have z4:?nG=?lO:=by rw[qi3,z3]
 have z5:(?nR).objs.size=?qP:=by rw[qi3,z4]
 have q5:?fM ?nG=?fO:=?fU;have q4:?fM ?wB=?fO:=?s1;have q3:?fM ?z6=?fO:=?v1;have q2:?fM ?v8=?fO:=?tP;have q1:?fM ?v=?fO:=?DK (?tP);show _/\_;rw[z2,z3,z4]at q5;rw[z1,z2]at q3;rw[z3]at q4;rw[z1]at q2;rw[z4];exact⟨(?E8 q5),k _ q5 q3 q4 ⟨_,q1,rfl,rfl⟩ ⟨_,q2,rfl,rfl⟩ z5 fun c o x=>?DK (qa6 _ (qa6 _ (qa6 _ (qa6 _ x))))⟩
universe e9
noncomputable def Ityp(K:W.Frag)(a b:Addr):It :=
 ⟨fun i H=>∃xs ys x y,?i1/\?iR/\?n4/\?oA,
  fun i H v H'=>∃p x y,?b2/\v=?f6/\H'=?vQ/\(∀xs,?i1->?n4)/\∀ys,?iR->?oA,
  fun i H=>∃xs ys,?i1/\?iR/\xs.length<=i⟩
theorem JZ[?aD][?CD](a b z TI TO i1 i2:Addr)(D:?t9 z TI TO i1 i2 a b) :
 Wp P w K (?DS es) (Ityp K a b) ?k4 z (fun i h=>?eC h z TI TO ?J/\?FA h TI/\(∃c d,?aY h TO c d)/\?rR i1 a i/\?rR i2 b i) where
 mem:=?b6
 obj:=fun i h st c hc=>by
  obtain⟨hz,hTI,⟨u,v,hTO⟩,⟨o1,h1,c1,d1⟩,⟨o2,h2,c2,d2⟩⟩:=st;ext p6;ext p3
  . exact⟨_,hz,?qW⟩
  . exact⟨_,hTI,?sG⟩
  . exact⟨_,hTO,?sG⟩
  . exact⟨o1,h1,fun v q=>by rw[d1]at q;cases q⟩
  . exact⟨o2,h2,fun v q=>by rw[d2]at q;cases q⟩
 keep:=fun i h h' st k=>by
  obtain⟨hz,hTI,⟨u,v,hTO⟩,h1,h2⟩:=st;exact⟨k z ?aM _ hz,k TI ?aM _ hTI,⟨u,v,k TO ?aM _ hTO⟩,h1.at fun o q=>k i1 ?aM o q,h2.at fun o q=>k i2 ?aM o q⟩
 item:=by
  ext eS;ext C7;obtain⟨xs,ys,x,y,Wj,lI,hx,hy⟩:=hg;ext BE;obtain⟨u,hu,ru⟩:=ra.get hx;obtain⟨v,hv,rv⟩:=rb.get hy;ext BQ;have ltz:=qb3 hz;refine Yi D hz hTI hTO h1 h2 (?EU ?bO a) (?ET ?bO b) (x:=u) (y:=v) (by simpa using hu) (by simpa using hv) fun h' hz' YQ FJ h2' htup hsz hk=>?_;refine⟨_,rfl,wpAny_letOwnedTupleGo_zip hz' fun h3 hz3 Oo=>?_⟩
  replace Oo:?nS z h' h3:=Oo
  have kk:∀c o,?t1->?uY->?iG c=?a8:=fun c o hc e=>by
   ext BD;exact(?bH c n1).trans (?xS)
  have tH:?E4 u v:=(?bH _ (qk8 ltz)).trans htup;have hi1:?t8 i1 a ?m:=FJ.at fun o e=>(?bH i1 D.i1z).trans e;have hi2:?t8 i2 b ?m:=h2'.at fun o e=>(?bH i2 D.i2z).trans e;have yR:?FA h3 TI:=(?bH TI D.TIz).trans (hk _ _ D.TIz D.TITO D.TIi1 D.TIi2 hTI);have yQ:?aY h3 TO u v:=(?bH TO D.TOz).trans YQ;have g7:∀c o,H c=?a8->?t1:=fun c o e hm=>?yQ
  have S7:∀c o,H c=?a8->c≠s.heap.objs.size:=fun c o e=>Ar e ?i0;refine⟨?bR,?uB,?_,rfl,⟨?v,x,y,?i0,rfl,rfl,fun zs q=>by rw[?sU q Wj];exact hx,fun zs q=>by rw[?sU q lI];exact hy⟩,⟨hz3,yR,⟨_,_,yQ⟩,hi1,hi2⟩,?aS⟩
  . refine Bp.step (s:=s) (h':=h3) (t':=s.toks) (H':=?uB) I (g':=s.gens) (d':=s.drawn) (ch:=?k4) (?aS) (fun c o _ _ hc e _=>?mI) (fun c o _ _ hc e _=>⟨o.slots,?mI⟩) (fun c o hc e n=>?_) (fun c o hc e=>⟨o,?mI⟩)
     (fun c zs e=>?v5) (fun c o w' e=>?v5) (fun c ps e=>⟨#[],by rw[Ak (S7 c _ e),e];simp⟩) (fun m hm=>?_) (fun c w' e=>?_) ?k5
    . have f:=hf c hc;ext BV
    . rw[Ak (?rY)];exact n
    . obtain⟨o,es',ep,ho,r⟩:=hm;exact⟨o,es',ep,?EP o ho,r⟩
    . by_cases hcs:c=s.heap.objs.size
      . subst hcs;rw[Ab]at e;cases e;exact⟨(?EK 2),[u,v],?a3 ru (?a3 rv ?M),?q7⟩
      . rw[Ak hcs]at e;refine(?a6 c w' e).stay (fun c' y' hc' q=>?_) (fun c' q=>?vR) fun c' zs q=>?vR
        rcases hc' with rfl | hc'
        . exact ?EA e
        . exact ?y4
  . have lb:?D2 c:=by
     ext p6;obtain⟨o1,q1,_⟩:=h1;obtain⟨o2,q2,_⟩:=h2;ext p3
     . exact ltz
     . exact qb3 hTI
     . exact qb3 hTO
     . exact qb3 q1
     . exact qb3 q2
    rw[Ak (qc9 lb)];exact(hf c hc).1
 done:=by
  ext eS;ext C7;obtain⟨xs,ys,Wj,lI,hx⟩:=hg;ext BE;have la:=ra.length;have lb:=rb.length;refine g8 ?iY D hz hTI hTO h1 h2 (?EU ?bO a) (?ET ?bO b) ?_ fun h' hk=>(?EI ?k4 (fun c o hc e=>?_))
  . simp;omega
  . ext BD;exact ?xS
 self:=fun _ _ _ _ _ st h=>qu5 st.1 h
inductive qD(K:W.Frag)[?CI]:Prop
 | mk:∀a b,(vs=?pK)->((∃xs,Ed K H1 a xs))->((∃ys,Ed K H1 b ys))->(R (Ityp K a b) H1)->?xF
noncomputable def Aj6(K:W.Frag)(ta:TA):TI:=fun σ H R=>?DZ ?xF
theorem HY:bootBuiltins ?e4=?e (?jN):=?i7
theorem RO{X:Cx}[?CD]{a b:Expr}{ta:TA}{p pos:Pos}(hg:Gl X ?e4)(hm:X.mg ?e4=none)(ha:PA X ?k6 ta)(hK:X.K=K:=by rfl)(hs:?cY ?k6 ?w=[?nK,?i8]:=by rfl)(hs2:?cY [b] ?w=[?i8]:=by rfl) :
 PI X (?DS es) (?ED ?e4 ?k6) (Aj6 K ta):=by
 subst hK;intro Af s σ H R I h;refine Call_ (Jt I hg hm HY (qf1 (Du (ha pos Af s σ H _ I h) fun us s1 ⟨vs,H1,I1,r1,q1⟩=>?_) (by rw[hs,hs2]) (by rw[hs2];rfl)));obtain⟨la,lb,e,⟨xs,Wj⟩,⟨ys,lI⟩,q⟩:=q1;subst e;cases r1 with
 | cons ra rr =>
   cases rr with
   | cons rb rr =>
     cases rr;cases ra;cases rb;obtain⟨ia,_,pa,_⟩:=?q9 Wj;obtain⟨ib,_,pb,_⟩:=?q9 lI;have a1:la<s1.heap.objs.size:=by obtain⟨_,e,_⟩:=pa;exact qb3 e
     have a2:lb<s1.heap.objs.size:=by obtain⟨_,e,_⟩:=pb;exact qb3 e
     refine MB (?EU ?pX la) (?ET ?pX lb) fun h' hz hTI hTO hi1 hi2 hsz hk=>?_;refine qu5 hz ⟨?AA,[?AA,?DB 2,?DB 3,s1.heap.objs.size,?wE],_,_,H1,rfl,?FF ?jF hk,JZ la lb _ _ _ _ _ (zipApart_new a1 a2),⟨hz,hTI,⟨_,_,hTO⟩,hi1,hi2⟩,?aS,q⟩
     have lc:s1.heap.objs.size<=c:=by
      ext p6;ext p3
      . exact ?fN
      . exact ?fN
      . exact ?fN
      . exact ?cI
      . exact ?fN
     exact I1.fpOk lc (I1.hok.fresh lc)
section
variable[?BZ]
theorem LY{K:W.Frag}{a b:Addr}{xs ys:?dJ}{n:Nat}(hn:xs.length=n/\ys.length=n)[?CA](hl:∀i zs τ H,i<=n->?d6->?i1/\?iR)
 (hs:∀i x y zs τ H p,?n4->?oA->?d6->?b2->g ?cC τ (?vQ) ?z7)
 (hd:?F2 n):Sc (Ityp K a b) g tc te D Q τ H:=by
 refine⟨fun i m zs τ H=>m=n-i/\i<=n/\?d6,?qJ,?_⟩;rintro i m zs τ H ⟨rfl,hi,pp⟩;obtain⟨qa,qb⟩:=?pT;by_cases hlt:i<n
 . refine ?DV ⟨xs,ys,xs[i],ys[i],qa,qb,?m1,?m1⟩ ⟨n-?m,O9m,rfl,hlt,p'⟩;obtain⟨p,u,v,hp,rfl,rfl,y1,y2⟩:=y;exact hs i u v zs τ _ p (y1 xs qa) (y2 ys qb) pp hp
 . have e:i=n:=O9m
   subst e;exact ?cQ ⟨⟨xs,ys,qa,qb,O9m⟩,?vS⟩
universe e9
section
variable{κ:Type}[?q6 κ]
noncomputable def Oq[?gU]:?eF:=(kvs.find? ?oQ).map (·.2)
noncomputable def Ma[?gU](v:V):?dR :=
 if ?iM=true then ?b0 (?CX (?E,v)) else kvs++[(k,v)]
noncomputable def Vw[?gU]:?dR:=kvs.filter fun kv=>?aZ (?E≠k)
theorem W4[?CH](e:?a1):?AM=?e p.2:=?qU
theorem W5[?CH](e:¬?a1):?AM=Oq r k:=?qU
theorem DA(k:κ):∀kvs:?dR,?iM=?uR
 | []=>rfl
 | p::r=>by
   rw[qm2];ext eX
   . simp only[W4 e,qg4 e,Bool.true_or,Option.isSome_some]
   . rw[W5 e,qj4 e,Bool.false_or];exact DA k r
theorem Pn[?gU](v:V):?A5<=kvs.length+1:=by
 unfold Ma;split
 . rw[qa2];omega
 . rw[qb1,qc5,qh2];omega
theorem Os.isSome_eq{o:?eF}{u:?f7}(r:Os o u):o.isSome=u.isSome:=by
 cases o with
 | none=>cases u with
   | none=>rfl
   | some _=>ext kL
 | some _=>cases u with
   | none=>ext kL
   | some _=>rfl
theorem Os.getD{o:?eF}{u:?f7}{d:V}{d':Value}(r:Os o u)(rd:?L d d'):?L (o.getD d) (u.getD d'):=by
 cases o with
 | none=>cases u with
   | none=>exact rd
   | some _=>ext kL
 | some _=>cases u with
   | none=>ext kL
   | some _=>exact r
theorem KV.val[?d2](k:κ):Os (?bP) (?mN):=by
 unfold KV at r
 induction r with
 | nil=>ext eY
 | @cons p q ps qs h t ih =>
   obtain⟨h1,h2⟩:=h;ext eX
   . have e':q.1=k:=?hS;have b:?w7=?e q.2:=?AE
     rw[W4 e,b];exact h2
   . ext p4;have b:?w7=?l5 qs k:=?AE
     rw[W5 e,b];exact ih
theorem KV.any[?d2](k:κ):?iM=?zG:=by
 unfold KV at r
 induction r with
 | nil=>rfl
 | cons h t ih=>rw[qm2,qm2,ih,h.1]
theorem KV.repl[?d2](k:κ)[?p9] :
 KV (?b0 (?CX (?E,y))) (vs.map (?CX (?E,u))):=by
 unfold KV at r ⊢
 induction r with
 | nil=>exact ?M
 | @cons p q ps qs h t ih =>
   rw[qd5,qd5];refine ?qY;obtain⟨h1,h2⟩:=h;ext eX
   . rw[?c3,?y7];exact⟨h1,ry⟩
   . ext C8;exact ?wI
theorem KV.put[?d2](k:κ)[?p9]:KV (Ma kvs k y) (?oO vs k u):=by
 unfold Ma stored;rw[r.any k];by_cases e:(?zG)=true
 . rw[?c3,?c3];exact ?t6
 . rw[?dP,?dP];exact ?pL r ⟨rfl,ry⟩
theorem KV.drop[?d2](k:κ):KV (?iH) (without vs k):=by
 unfold KV at r ⊢;unfold Vw without
 induction r with
 | nil=>exact ?M
 | @cons p q ps qs h t ih =>
   obtain⟨h1,h2⟩:=h;rw[qi1,qi1];ext eX
   . have a:¬?qR:=?uU
     have b:¬?z0:=by simp[?hS]
     rw[?f a,?f b];exact ih
   . ext p4;have a:?qR:=?uU
     have b:?z0:=by simp[e']
     rw[?g a,?g b];exact ?a3 ?wI ih
theorem KV.keys[?d2]:?b0 (·.1)=vs.map (·.1):=by
 unfold KV at r
 induction r with
 | nil=>rfl
 | cons h t ih=>rw[qd5,qd5,ih,h.1]
theorem KV.length[?d2]:kvs.length=vs.length:=?r4 r
theorem ER[?gU]:(?iH).length<=kvs.length:=qg2 _ _
universe e9
theorem kV_is[?aD]{k:Key}{u:Value}(r:?nF):?sW:=by
 cases k with
 | inl i=>obtain⟨t,e⟩:=(show ?yR from r);subst e;exact EG P w i t
 | inr x=>obtain⟨t,e⟩:=(show ?y5 from r);subst e;exact eG P w x t
theorem AK[?aD]:∀{ks:?cM}{us:?oU},Vals (ks.map kV) us->ItemsAre ?dV ks us
 | [],_,r=>by rw[qt9]at r;cases r;exact ?M
 | k::ks,_,r=>by
   rw[qd5]at r;cases r with
   | cons h t=>exact ?a3 (?k3 h) (AK t)
noncomputable abbrev KT(H:Hp):?fS->?oS->Prop:=?lC fun p q=>p.1=q.1/\H q.2.1=?e (?a5 (p.1.map kV))/\?L p.2 q.2.2
theorem KT.val{H:Hp}[?kH](k:?cM):Os (?bP) ((?sL).map (·.2)):=by
 induction r with
 | nil=>ext eY
 | @cons p q ps qs h t ih =>
   obtain⟨h1,_,h2⟩:=h;ext eX
   . have e':q.1=k:=?hS;have b:?s6=?e q.2:=?z1
     rw[W4 e,b];exact h2
   . ext p4;have b:?s6=atKey qs k:=?z1
     rw[W5 e,b];exact ih
theorem KT.repl{H:Hp}[?kH](k:?cM)[?p9] :
 KT H (?b0 (?CX (?E,y))) (xs.map (putAt k u)):=by
 induction r with
 | nil=>exact ?M
 | @cons p q ps qs h t ih =>
   rw[qd5,qd5];refine ?qY;obtain⟨h1,h2,h3⟩:=h;unfold putAt;ext eX
   . rw[?c3,?y7];exact⟨h1,h2,ry⟩
   . ext C8;exact⟨h1,h2,h3⟩
theorem KT.put{H:Hp}[?kH](k:?cM){b:Addr}{y:V}{u:Value}(hb:?m2)(ry:?j9) :
 KT H (Ma kvs k y) (storedH xs k b u):=by
 have e:?iM=?uD:=by
  rw[DA,(r.val k).isSome_eq,Option.isSome_map]
 unfold Ma storedH;rw[e];by_cases q:?uD=true
 . rw[?g q,?g q];exact ?t6
 . rw[?f q,?f q];exact ?pL r ⟨rfl,hb,ry⟩
theorem KT.keeps{H H':Hp}[?kH](ht:∀b ys,H b=?e (?a5 ys)->H' b=?e (?a5 ys)):KT H' kvs xs :=
 Paired.mapP r fun _ _ z=>⟨z.1,ht _ _ z.2.1,z.2.2⟩
section
variable[?aD]{H:Hp}{h:Heap}{a:Addr}
theorem uQ{u:HO}[?eZ](e:Rd H a u):?E5 u:=e.ok ok
theorem AR[?aC][?eZ][?pG]:?yO :=
 show ?E5 ?aF from uQ ok e
theorem eS[?aC][?eZ][?eV]:?yO:=AR ok (?cQ e)
theorem GO{ks:?cM}[?eZ](e:H a=?e (?a5 (ks.map kV))):?wH h ks a:=by
 obtain⟨_,its,r,o,h1,h2,_,n,h3⟩:=(show ?E5 (?a5 (ks.map kV)) from ok a _ e)
 exact⟨o,?lE,n,h1,h2,h3,by simpa using AK r⟩
theorem pF{kvs:?fS}[?eZ](e:?nB):?g4/\?dL ∧
 ?u6:=by
 obtain⟨z,y,xs,r,o,es,ep,h1,h2,h3,h4,h5⟩:=(show ?E5 (.dT kvs) from uQ ok e)
 refine⟨z,y,xs,r,o,es,ep,h1,h2,h3,h4,fun x hx=>?_,h5⟩
 have all:∀{l:?fS}{m:?oS},KT H l m->∀x∈m,?wH h x.1 x.2.1:=by
  intro l m q
  induction q with
  | nil=>intro x hx;exact nomatch hx
  | @cons p q ps qs hq t ih =>
    intro x hx;rcases qb7.mp hx with e | hx
    . subst e;exact GO ok (by rw[←hq.1];exact hq.2.1)
    . exact ih x hx
 exact all r x hx
theorem Ao8{kvs:?fS}[?eZ](e:H a=?e (.dT kvs)):?g4/\?dL ∧
 ?u6:=pF ok (?cQ e)
universe e9
noncomputable def DGet(H:Hp)(a:Addr)(y:V)(r:?eF):Prop :=
 (∃kvs k,?fP/\y=kV k/\r=?bP)\/∃kvs k b,?nB/\y=?cG/\?m2/\r=?bP
noncomputable def ZO(H:Hp)(a:Addr)(y v:V)(H':Hp):Prop :=
 (∃kvs k,?hQ/\y=kV k/\?w5/\H'=?DY a (.dK (?m6))) ∨
 ∃kvs k b,H a=?e (.dT kvs)/\y=?cG/\?m2/\?w5/\H'=?DY a (.dT (?m6))
section
variable[?bB]{y v:V}{u r:Value}{o:?eF}[?bT]
theorem Bp.big[?Q]:?D2 sysModules:=by
 have h:?D2 mainGlobals:=(I.mod.glob.keeps I.bk).lt;exact qt8 ?D h
theorem Tl{h':Heap}{t':Nat}{ob:HO}[?Q](mu:Mut (H a))(hs:?nS a ?O h')(he:?uA)(new:?bN ?iJ X.w (?DY a ob) h' a ob) :
 Bp X Af σ (?DY a ob) { s with heap:=h',toks:=t' } :=
 I.write (x:=a) (e:=a) mu (?cQ rfl) (fun b q hb z=>(hs.2 b hb).trans z) he new
theorem U3[?aD]{H':Hp}{h':Heap}[?aC][?pC](z:?g4)(hd:?dL)(rel:?dQ)(dd:?B0 ?dV a vs) :
 ?bN P w H' h' a ?aF:=⟨z,hd,vs,rel,dd⟩
theorem LU{H':Hp}{Q:?z4}(hu:?yC)[?Q](g:ZO H a y v H')(ry:?j9)(rv:?L v r)(h:∀s',?yL->Q () s') :
 ?CT ?c1 (setItem ?dX u r):=by
 rcases g with⟨kvs,k,e,ey,l,eH⟩|⟨kvs,k,b,e,ey,eb,l,eH⟩
 . subst ey eH;ext kJ;have hz:vs.length<=sizeLine:=?j1
   ext BG
   refine wpAny_setItem_pairs (hsz:=hz) ?g8 dd ?nM;ext oY
   exact Tl I ?hH hs he (U3 hl hd (rel.put k rv) gZ)
 . subst ey eH;cases (show u=?cP b from ry);obtain⟨z,hd,xs,rel,dd⟩:=Ao8 ?a6 e;have hz:xs.length<=sizeLine:=by rw[←?r4 rel];exact z
   ext BG
   refine wpAny_setItem_heap (hsz:=hz) (tupleKind_room_in1 hu) (?w2) dd ?nM;obtain⟨q,es,ep,hq,h2,h3,h4,_,h5⟩:=gZ;refine Tl I ?hH hs ?rU ⟨hl,hd,_,(rel.put k eb rv).keeps fun c ys ec=>?_,q,es,ep,hq,h2,h3,h4,h5⟩;rw[Ak (E6 ec e (fun z=>nomatch z))];exact ec
universe e9
section
variable[?bB][?aC]{k:Key}{u:Value}[?bT]
theorem Aa4{Q:?z4}[?Q][?eV][?pI](l:?uR=true)(h:∀s',?rI->Q () s') :
 ?CT ?c1 (delItem ?dX u):=by
 ext kJ
 refine wpAny_delItem_slot ?cV ?D ?yH
  (?dA ?yH ?cV PySem.F.entry_dict_delitem (PySem.F.args_dict_delitem_2 _ _) (meets_dict_delitem_pairs ?b8 a ?g8) ⟨vs,dd,?j1,by rw[←(rel.val k).isSome_eq];exact l,?nM⟩)
 ext oY
 ext B9
theorem Ap0{v:V}{more:?oU}[?eU][?Q][?eV][?pI](l:?bP=?e v)(hm:more=[]\/∃x,more=[x])
 (h:∀w' s',?rI->?L v w'->Q w' s'):?CT ?c1 (?d7 ?w4 (?uW)):=by
 ext kJ;obtain⟨w',hw,rw'⟩:=Os.some_of (v:=v) (o:=?mN) (?F8 k)
 have hp:?yJ:=by
  cases k with
  | inl i=>ext BH
  | inr x=>ext BI
 have ha:argsOk ?yD ⟨?uW,[]⟩:=by
  rcases hm with q|⟨x,q⟩
  . subst q;exact PySem.F.args_dict_pop_2 _ _
  . subst q;exact ?rW
 refine ?dA qt5 ?cV ?AW ha (meets_dict_pop_there ?b8 a ?g8 more hm hp)
  ⟨vs,w',dd,?j1,hw,fun h' gZ hs=>h w' _ ?_ rw'⟩
 ext oY
 ext B9
theorem zC{r:Value}[?eU][?Q][?eV][?pI](l:?AX)(h:∀s',?rV->Q r s') :
 ?CT ?c1 (?d7 ?w4 ?qD):=by
 ext kJ;have hn:?mN=none:=Os.none_of (?F8 k)
 have hp:?yJ:=by
  cases k with
  | inl i=>ext BH
  | inr x=>ext BI
 exact ?dA qt5 ?cV ?AW (?rW) (meets_dict_pop_default ?b8 a ?g8 hd hp r) ⟨vs,dd,hn,h _ ?vV⟩
universe e9
inductive IsDPut(D:Ends)(σ:St)(v:V)(x:V)(y:V)(H3:Hp):Prop
 | mk:∀a H4,(x=?R)->(ZO H3 a y v H4)->(D.nx σ H4)->?rQ
noncomputable def Af3(td ty tv:TE):TS:=fun D σ H=>tv σ H fun v H1=>td σ H1 fun x H2=>ty σ H2 fun y H3=>?rQ
section
variable{X:Cx}{o i e value:Expr}{pos pos' tpos:Pos}{td ty tv:TE}
theorem RK(hu:?rF)(ho:?q2)(hi:PE X i ty)(hv:PE X value tv)(hs:swapsWith value (?e (?A2)) pos.line ?w=pure ?bE) :
 PS X (.Assign [?A2] value pos) (Af3 td ty tv):=by
 intro Af s σ H D I h;refine wpAny_Assign_Subscript (Du (?FI hv) fun r s1 ⟨v,H1,I1,rv,q1⟩=>Du (?D7 ho) fun u s2 ⟨x,H2,I2,rx,q2⟩=>Du (?D6 hi) fun iv s3 _z=>?_) hs;obtain⟨y,H3,I3,ry,a,H4,ex,g,q3⟩:=_z;subst ex;obtain rfl:u=?cP a:=rx;exact LU hu I3 g ry rv fun s4 I4=>⟨σ,H4,I4,q3⟩
universe e9
theorem dk_empty[?aD]{H:Hp}(h:Heap)(hb:sysModules<h.objs.size):?bN P w H (h.push ?vC) ?wL (?d9) :=
 ⟨?b7,?DT hb,[],?M,?AI h⟩
noncomputable def wM:TE:=fun _ H Q=>?FJ (?d9)
section
variable[?kV]
theorem Sy:PE X (.Dict [] [] pos) wM:=fun Af s σ H Q I h =>
 wpAny_Dict_empty ⟨?bR,_,?jT (a:=s.heap.objs.size) (o:=?d9) (t':=s.toks) (fun _ _ q=>?DK q) ?j (dk_empty ?O I.big),rfl,h _ (?g7 ?j)⟩
universe e9
noncomputable def tPairs:?fR->St->Hp->(?wZ)->Prop
 | [],_,H,Q=>Q [] H
 | (tk,tv)::r,σ,H,Q=>tk σ H fun x H1=>tv σ H1 fun y H2=>?lV r σ H2 fun ps H3=>Q (?zU) H3
noncomputable abbrev VV:?EM V V->?EM Value Value->Prop:=?lC fun p q=>?L p.1 q.1/\?L p.2 q.2
noncomputable def PPs(X:Cx)(pos:Pos)(keys:?mX)(values:?bJ)(QS:?fR):Prop :=
 ∀(Af:Bl) (s:Shared) (σ:St) (H:Hp) (Q:?wZ),?r9->?lV QS σ H Q →
   ?p ?c1 X.A (evalPairs (pairTrees keys ?nZ ?w pos)) (fun vs s'=>∃ps H',?yL/\VV ps vs/\Q ps H') X.xe s
theorem iV[?kV]:PPs X pos [] [] []:=fun Af s σ H Q I h=>pairTrees_nil_walk ⟨[],H,I,?M,h⟩
theorem Xy[?kV]{k v:Expr}{ks:?mX}{vs:?bJ}{tk tv:TE}{QS:?fR}(hk:PE X k tk)(hv:PE X v tv)(hr:PPs X pos ks vs QS) :
 PPs X pos (?e k::ks) (v::vs) ((tk,tv)::QS):=fun Af s σ H Q I h =>
 pairTrees_cons_walk (Du (?FI hk) fun u s1 ⟨x,H1,I1,rx,q1⟩=>Du (?D7 hv) fun w2 s2 ?o0 =>
  Du (?D6 hr) fun ws s3 ⟨ps,H3,I3,rel,q3⟩=>⟨?zU,H3,I3,?a3 ⟨rx,ry⟩ rel,q3⟩)
noncomputable def G8(kvs more:?aI):?aI:=more.foldl (fun acc kv=>Ma acc ?E kv.2) kvs
theorem KV.merge:∀{more:?aI}{rs:?j7}[?aC][?pC],KV more rs->?dQ->KV (?lN) (merged vs rs):=by
 intro more rs kvs vs r;unfold KV at r
 induction r generalizing kvs vs with
 | nil=>intro q;exact q
 | @cons p q ps qs h t ih =>
   intro r0
   have e:KV ?jU (?oO vs q.1 q.2):=by
    have:=r0.put p.1 h.2;rw[←h.1];exact this
   exact ih e
theorem Mc:∀(more kvs:?aI),(?lN).length<=kvs.length+more.length
 | [],kvs=>by show kvs.length<=kvs.length+0;omega
 | p::r,kvs=>by
   have h1:=Mc r ?jU;have h2:=Pn kvs p.1 p.2;show(G8 ?jU r).length<=_;rw[qc5];omega
theorem Zn[?aD]:∀[?aC]{ws:?EM Value Value},VV (?b0 ?s4) ws->∃rs,Carries ?dV ws rs/\KV kvs rs
 | [],_,r=>by rw[qt9]at r;cases r;exact⟨[],True.intro,?M⟩
 | p::kvs,_,r=>by
   rw[qd5]at r;cases r with
   | @cons a b as bs h t =>
     obtain⟨rs,c,q⟩:=Zn (P:=P) (w:=w) t;obtain⟨b1,b2⟩:=b;exact⟨(p.1,b2)::rs,⟨?k3 h.1,rfl,c⟩,?a3 ⟨rfl,h.2⟩ q⟩
noncomputable def Ae4(QS:?fR):TE:=fun σ H Q=>∀p,?b2->?lV QS σ (?DY p (?d9)) fun ps H2=>H2 p=?e (?d9)/\∃kvs:?aI,ps=?b0 (?s4)/\kvs.length<=15/\Q ?cC (upd H2 p (.dK (?gJ)))
theorem iX[?kV]{keys:?mX}{values:?bJ}{QS:?fR}(h:PPs X pos keys ?nZ QS)(hall:keys.all (·.isSome)=true)(hl:keys.length=values.length)(h0:keys≠[])
 (h15:keys.length<=15):PE X (.Dict keys ?nZ pos) (Ae4 QS):=by
 intro Af s σ H Q I q;have hn:=?g7 (qa1 ?v);have I1:=?jT (a:=s.heap.objs.size) (o:=?d9) (h':=?j3) (t':=s.toks) (fun _ _ q=>?DK q) ?j (dk_empty ?O I.big);refine wpAny_Dict_walk (knd:=?lM) hall hl h0 h15 (Du (h Af _ σ _ _ I1 (q _ hn)) fun ws s2 _z=>?_);obtain⟨ps,H2,I2,rel,e,kvs,ep,lk,q2⟩:=_z;subst ep;obtain⟨rs,c,rk⟩:=Zn (P:=X.prog) (w:=X.w) rel;obtain⟨z,hd,vs0,r0,dd⟩:=eS I2.hok e;cases r0;refine⟨rs,c,dd,fun h' gZ hs=>⟨?bR,_,?_,rfl,q2⟩⟩
 have hz:?wD:=by
  have h1:=?xG;rw[qh2]at h1;rw[sizeLine_eq];omega
 have he:∃q,?gH ?v=?e q:=?pW
 exact Tl I2 ?hH hs he (U3 hz hd (rk.merge ?M) gZ)
structure M2(X:Cx)(o:Expr)(m:Str)(apos:Pos)(e f:Expr)(cpos:Pos):Prop where
 base:?yZ o m ?w (?u5)=?u5
 few:((?AH).all (fun x=>!x.1)&&(backToKw ?cH (keywordEach [] ?w)).all (fun x=>x.1.isSome)
  && ?aZ ((?iW:?bJ).length+([]:?zX).length+(if ([]:?zX).isEmpty then 0 else 1)<30))=true
 line:?sN
 trees:?AH=[(?bE,?nW),(?bE,?cT f ?w)]
noncomputable def IsD(H:Hp)(a:Addr):Prop:=(∃kvs,?fP)\/∃kvs,?nB
theorem oQ[?bB][?Q](d:IsD H a) :
 ?o8 ?dX ?cK/\(∀b,?cP a=?cG->∃ob,?tZ/\ob.dict=none)/\?dL:=by
 rcases d with⟨kvs,e⟩|⟨kvs,e⟩
 . obtain⟨_,hd,vs,_,dd⟩:=?gQ;ext B5
 . obtain⟨_,hd,xs,_,dd⟩:=?rK;ext B5
section
variable[?bB]{y d:V}{u r:Value}{o:?eF}[?bT]
theorem ZD[?eU](hu:?yC)[?Q](g:DGet H a y o)(ry:?j9)(rd:?L d r)(h:∀w' s',?rV->?L (o.getD d) w'->Q w' s') :
 ?CT ?c1 (?d7 (?jO "dict.get") ?qD):=by
 rcases g with⟨kvs,k,e,ey,l⟩|⟨kvs,k,b,e,ey,eb,l⟩
 . subst ey;obtain⟨z,hd,vs,rel,dd⟩:=?gQ;refine ?dA qt6 ?cV ?uI (?EZ _) (meets_dict_get_default ?b8 a ?g8 hd r) ⟨_,dd.mapOf,?q1⟩;rw[l];exact(rel.val k).getD rd
 . subst ey;cases (show u=?cP b from ry);obtain⟨z,hd,xs,rel,dd⟩:=?rK;refine ?dA qt6 ?cV ?uI (?EZ _) (meetsH_dict_get_default (?oT ?b8) a b hd r) ⟨tupleKind_room_in1 hu,k,xs,?w2,dd,?q1⟩;rw[l];exact(rel.val k).getD rd
universe e9
inductive ItDGet2(ty:TE)(tx:TE)(σ:St)(Q:VK)(x:V)(H1:Hp):Prop
 | mk:∀a,(x=?R)->(?AT)->(ty σ H1 fun y H2=>tx σ H2 fun z H3=>∃o,DGet H3 a y o/\Q (o.getD z) H3)->?vI
noncomputable def WM(td ty tx:TE):TE:=fun σ H Q=>td σ H fun x H1=>?vI
noncomputable def WL(td ty tx:TE):TE:=fun σ H Q=>td σ H fun x H1=>∃a,x=?R/\?AT/\ty σ H1 fun y H2=>tx σ H2 fun z H3=>∃kvs k,H3 a=?e ?aF/\y=kV k ∧
 (∀v,?bP=?e v->Q v (upd H3 a (.dK (?iH))))/\(?AX->Q z H3)
section
variable{X:Cx}{o e f:Expr}{apos cpos:Pos}{td ty tx:TE}
theorem X3(hu:?rF)[?CC](m:M2 X o "get" apos e f ?cH):?DI "get" WM:=by
 intro Af s σ H Q I h;refine ?CV qt6 PySem.F.type_dict_get;ext B3
 refine qq1 rfl (qw1 (qn1 (Du (?D7 he) fun iv s2 ?o0 =>
  ?FD ⟨z,H3,I3,rz,ov,g,q3⟩)))
 exact ZD hu I3 g ry rz fun w' s4 I4 rw'=>⟨_,H3,I4,rw',q3⟩
theorem NK[?CC](m:M2 X o "pop" apos e f ?cH):?DI "pop" WL:=by
 intro Af s σ H Q I h;refine ?CV qt5 PySem.F.type_dict_pop;ext B3
 refine qq1 rfl (qw1 (qn1 (Du (?D7 he) fun iv s2 ?o0 =>
  ?FD ⟨z,H3,I3,rz,kvs,k,ea,ey,q3,q4⟩)))
 subst ey;cases l:Oq kvs k with
 | some v=>exact Ap0 I3 ea ry l (.inr ⟨fv,rfl⟩) fun w' s4 I4 rw'=>⟨v,_,I4,rw',q3 v l⟩
 | none=>exact zC I3 ea ry l fun s4 I4=>⟨z,H3,I4,rz,q4 l⟩
universe e9
section
variable[?bB][?aC][?bT]
theorem pJ[?eU][?Q][?pG](h:∀p s',?b2->?D0 (upd H p ?aF) s'->Q ?cC s'):?CT ?c1 (?d7 (?G ?cK) [?R]):=by
 obtain⟨z,hd,vs,rel,dd⟩:=?gQ;refine kt_call_dict hd dd (?j1) fun h' gZ hs=>?_;refine h _ _ (?g7 ?j) (?jT (a:=s.heap.objs.size) (o:=?iX) (t':=s.toks) (fun b q hq=>?_) ?j (U3 z (?DT I.big) rel gZ));exact(hs.2 b (?EV hq)).trans (?DK hq)
universe e9
section
variable[?bB]{y:V}{u:Value}[?bT]
universe e9
section
variable{X:Cx}
universe e9
universe L2
namespace L2
open PySem PySem.Spec PyProof.Rows PySem.SeqAt
noncomputable def cK[?aB]:?aI:=?jE fun p=>(Sum.inl p.1,?aK p.2)
noncomputable def C3[?aB](k:Int):?iB Int:=(ms.find? ?k0).map (·.2)
universe L2
namespace L2
open PySem PySem.Spec PyProof.Rows
section
variable[?pE][?bT]
theorem BU:typeLookup (?l2) ?lT=pure none:=am_miss_of_fast ?k7
theorem Yp{s:Shared}{a:Addr}{xs:?gP}{k:Nat}[?p8]
 (hx:?gF a=?e { cls:=?l2,data:=?dB xs k }) (hA:?iK)
 (h:∀h' tk,(∀b o,?hR->?gH b=?a8)->Q none ?jD) :
 ?CT ?e7 (getAttr? ?dX ?lT):=by
 obtain⟨hp,g,d,tk,os⟩:=s;have hT:∀tk',(⟨hp,g,d,tk',os⟩:Shared).TypeIs ?dX ?dM:=fun _=>(?E8 hx)
 have f1:=sub_AttributeError;have f3:=F.slot_list_getattribute.lookup;have f4:=F.slot_list_getattribute.bind ?dX;have f5:=am_list_getattr_none;unfold getAttr? getAttrBy? getAttrBy
 repeat (any_goals (first | assumption | exact hT _ | ((with_reducible show ?CN (?d7 (Value.builtin "list.__getattribute__") _ _));refine call_meets F.slot_list_getattribute (hT _) am_entry_list_getattribute (F.args_list_getattribute_2 _ _) (meets_getattribute_miss_list a xs k #[] ?lT _ BU (?i7)) ⟨hx,hA,fun h' tk' e hx'=>?_⟩) | wp_step))
 obtain⟨t',u',he⟩:=hx'.there;show ?CN (getattributeRaised _ _ _ _ _ _ _);unfold getattributeRaised
 repeat (any_goals (first | assumption | wp_step))
 exact h _ _ hx'.keeps
theorem Ll:plainId ?m3=true:=?i7
theorem Vv:?tJ table ?m3=?e Builtin.«dict.update.loop»:=entryFor_of_fast ?k7
variable{KT:Type}[?q6 KT]{knd:KeyKind prog w KT}
noncomputable def Ar4(d it:Addr)(h0 h:Heap):Prop:=∀b o,b≠d->b≠it->h0.get? b=?a8->h.get? b=?a8
theorem LS(hh:?iK){d it l:Addr}{items:?gP}{prs:?t3}(hl:prs.length=items.size)(ndi:d≠it)(nld:l≠d)(nli:l≠it){h0:Heap}(hL:h0.IsList l items)
 (hP:∀(i:Nat) (x:Value),?uV=?eR->∃(p:?vJ) (t:Addr) (key:Value),?tG/\x=?h t/\t≠d/\t≠it/\h0.IsTuple t ?o1/\knd.is p.1 key=true) {R:Result->?fH} :
 ∀(n i:Nat) (s:Shared) (acc:?t3),prs.length-i=n->i<=prs.length->acc.length+n<=sizeLine->s.heap.DictOf knd d acc->s.heap.IsListIter it l i->Ar4 d it h0 ?O →
   (∀h' tk,?B0 knd d (merged acc (?kF i))->Ar4 d it h0 h'->R (.ok (.ret ?J)) ?jD) →
   codeAny ?e7 A (?jO ?m3 ⟨[?h d,?h it,rawInt i,?J],[]⟩) R s:=by
 intro n
 induction n with
 | zero =>
   ext B1
   have hx:?uV=none:=?iE
   ext C9;refine qa7 (wpAny_pyNext_list_end hh hit hLs hx fun h' he=>?_);show ?CN (Builtin.Dict.addKeywords d []>>=_);refine qa7 (qc6 (qc6 ?_));have e:?kF i=[]:=?iE
   have k':=k h' s.toks (by rw[e];exact hd.extBut he ndi) fun b o n1 n2 q=>he b o n2 (hb b o n1 n2 q);exact k'
 | succ n ih =>
   ext B1
   have hlt:i<items.size:=O9m
   obtain⟨p,t,key,hp,ex,ntd,nti,hT,hkey⟩:=hP i ?vN (?lB);ext C9;refine qa7 (wpAny_pyNext_list_item hit hLs (x:=?vN) (?lB) fun h1 A78 hs1=>?_);rw[ex];have hT1:h1.IsTuple t ?o1:=let ?qQ:=hT;⟨o,(hs1.2 t nti).trans (hb _ _ ntd nti ho),r⟩
   have hd1:?xB knd d acc:=hd.sameBut hs1 ndi;obtain⟨o,ho,hc,m,hdat⟩:=hT1;refine qa7 (qr3 ?_);refine qa7 (wpAny_tryCatch ?_);unfold Builtin.Dict.pairItems;refine qa7 (?u1 (show((?qF:Shared).TypeIs (?h t) "tuple") from⟨o,ho,hc⟩) ?_);rw[?g ?D];refine qa7 (qm8 ho hdat (qc6 ?_));show ?CN (holding [key,p.2] (dictSet d key p.2));refine qr3 (wpAny_dictSet_pairs (s:=?qF) hkey hd1 (fun h2 hd2 hs2=>?_) O9m);refine ?EJ _
   have e2:?kF i=p::?kF ?m:=by
    rw[List.drop_eq_getElem_cons ?c]
    congr 1
    rw[qa0 ?c]at hp;exact qe1 hp
   have hl2:=stored_length_le acc p.1 p.2;refine ih ?m { s with heap:=h2,toks:=s.toks+1 } (?oO acc p.1 p.2) O9m O9m O9m hd2 ?_ (fun b o' n1 n2 q=>?_) (fun h' tk hd' hb'=>k h' tk (by rw[e2];exact hd') hb')
   . obtain⟨oi,hoi,ri⟩:=A78;exact⟨oi,(hs2.2 it (?i3 ndi)).trans hoi,ri⟩
   . exact(hs2.2 b n1).trans ((hs1.2 b n2).trans (hb b o' n1 n2 q))
universe e9
theorem vals_pair{x y:V}{us:?oU}(r:Vals [x,y] us):∃a b,us=?k6/\?L x a/\?L y b:=by
 cases r with
 | cons h1 r =>
   cases r with
   | cons h2 r =>
     cases r;exact⟨_,_,rfl,h1,h2⟩
theorem DT[?aD]{H:Hp}{h:Heap}(hok:?zQ):∀[?CF],?qH->(?CW t) →
 ∃prs:?j7,KV kvs prs/\prs.length=ts.length/\∀(i:Nat) t,?h5->∃(p:?tA) (key:Value),?tG/\h.IsTuple t ?o1/\?qL p.1 key=true
 | [],[],_,_=>⟨[],?M,rfl,fun i t e=>?s8⟩
 | [],_::_,hl,_=>?x9
 | _::_,[],hl,_=>?x9
 | t::ts,kv::kvs,hl,hk=>by
   obtain⟨prs,h1,h2,h3⟩:=DT hok ts kvs (by simpa using hl) fun i t e=>by
    obtain⟨kv',e1,e2⟩:=hk ?m t (?fE);exact⟨kv',?gL,e2⟩
   obtain⟨kv',e1,e2⟩:=hk 0 t rfl;have e1':kv=kv':=?gL
   subst e1';obtain⟨_,its,rv,o,ho,hc,hdn,n,hd⟩:=hok t _ e2;obtain⟨a,b,rfl,ra,rb⟩:=vals_pair rv;refine⟨(kv.1,b)::prs,.cons ⟨rfl,rb⟩ h1,by simp[h2],fun i t' e=>?_⟩;cases i with
   | zero =>
     have:t=t':=?fE
     subst this;exact⟨(?E,b),a,rfl,⟨o,ho,hc,n,hd⟩,?k3 ra⟩
   | succ i =>
     obtain⟨p,key,q1,q2,q3⟩:=h3 i t' (?fE);exact⟨p,key,by simpa using q1,q2,q3⟩
inductive jV[?pD]:Prop
 | mk:∀(p:Addr) [?CF],(xs=[?f6])->(H p=?e (.lst (ts.map V.ref)))->(?qH)->((?CW t))->(∀D,H D=none->Q (?h D) (?DY D (.dK (?gJ))))->?v4
noncomputable def WW:?nC:=fun xs H Q=>?v4
theorem Zo{X:Cx}(hc:?zJ):F0 X (?G ?cK) WW:=by
 intro Af s σ H xs us Q I r h;obtain⟨l,ts,kvs,rfl,hl,hlen,hk,q⟩:=h;obtain⟨u,rfl,ru⟩:=Vf r;cases ru;have hh:X.A.handled=none:=?wY;obtain⟨hz,its,n,rv,ho⟩:=?a6 l _ hl;rw[qa2]at hz;have hil:its.length=ts.length:=by rw[←rv.length,qa2]
 obtain⟨prs,hkv,hpl,hP⟩:=DT ?a6 ts kvs hlen hk
 have at_:∀(i:Nat) (x:Value),its.toArray[i]?=?eR->∃t,?h5/\x=?h t:=fun i x e=>by
  have e':its[i]?=?eR:=?fE
  have hlt:i<its.length:=(qa3.mp e').1;have hb:ts[i]?=?e (ts[i]'(O9m)):=?m1
  obtain⟨u,hu,ru⟩:=rv.get (i:=i) (x:=V.ref (ts[i]'(O9m))) (by rw[qa8,hb];rfl);rw[e']at hu;cases hu;cases ru;exact(?E8 hb)
 refine callType_codes (Q₁:=fun obj s₁=>obj=?bR/\s₁=?tS) PySem.F.kt_called_dict (PySem.F.kt_typeCall_dict_1 _) PySem.F.entry_dict_init (kt_code_dict_new _ ?wP) ?_;rintro obj s₁ ⟨rfl,rfl⟩;have hnew:(?j3).DictOf ?b8 ?v []:=?AI ?O;refine⟨?tN,PySem.F.args_dict_init_2 _ _,?_⟩;unfold Builtin.«dict.__init__»;refine ?oB;unfold Builtin.Dict.selfAndRest;refine qa7 (wpAny_notOrdered_dict ?tN ?_);show ?CN (pure (?v,[?cP l]));refine qc6 ?_;show ?CN (Builtin.Dict.updateFrom "dict.__init__" ?v (?h l) [] ?J);unfold Builtin.Dict.updateFrom;have ZW:(?j3).get? l=?e { cls:=?l2,data:=?dB ?lE n }:=?DK ho;refine qa7 (?u1 (show((?tS:Shared).TypeIs (?h l) ?dM) from(?E8 ZW)) ?_);rw[?g ?D];refine qa7 (Yp ZW hh fun h1 tk hk1=>?_);rw[?g (show(none:?f7).isNone=true from rfl)];refine qa7 (wpAny_rule ?_);have hl1:h1.IsList l ?lE:=⟨_,?x6,rfl,n,rfl⟩
 refine qa7 (qt3 hl1 ?_);refine ?EJ _;have lt0:?D2 l:=qb3 ho;have nD:∀b o,?hR->?q0:=fun b o e=>?rY;have up:∀b o,?hR->h1.get? b=?a8:=fun b o e=>hk1 _ _ (?DK e);have nI:∀b o,?hR->b≠h1.objs.size:=fun b o e=>?EV (up b o e);obtain⟨oD,esD,epD,hoD,rD⟩:=id hnew;have Eg:?xB ?b8 ?v []:=⟨oD,esD,epD,?wF,rD⟩
 have ndi:s.heap.objs.size≠h1.objs.size:=?EV (?wF)
 refine LS (knd:=?lM) (show X.A.in1.handled=none from hh) (prs:=prs) (items:=its.toArray) (l:=l) (d:=s.heap.objs.size) (it:=h1.objs.size) (h0:=h1.push { cls:=?G "list_iterator",data:=?bF #[?h l,?oI] }) (?iE) ndi (nD _ _ ho) (nI _ _ ho)
  ⟨_,?DK (?x6),rfl,n,rfl⟩ (fun i x e=>?_) prs.length 0 _ [] O9m O9m ?_ (Eg.push _) ?zI (fun b o _ _ e=>e) (fun h' tk' hd' hb'=>?_)
 . obtain⟨t,e1,rfl⟩:=at_ i x e;obtain⟨p,key,e2,⟨o,ho',r'⟩,e4⟩:=hP i t e1;exact⟨p,t,key,e2,rfl,nD _ _ ho',nI _ _ ho',⟨o,?DK (up _ _ ho'),r'⟩,e4⟩
 . have e0:([]:?j7).length=0:=rfl;omega
 . refine⟨rfl,?bR,?DY ?v (.dK (?gJ)),?_,rfl,q _ (?g7 ?j)⟩
   have hzz:?wD:=by
    have h1:=?xG;rw[qh2]at h1;omega
   refine ?jT (a:=s.heap.objs.size) (o:=.dK (?gJ)) (t':=tk') (fun b o e=>hb' b o (nD _ _ e) (nI _ _ e) (?DK (up _ _ e))) ?j (U3 hzz (?DT I.big) (hkv.merge ?M) ?_);simpa using hd'
theorem Ny:∀(more kvs:?aI),((?pO).map (·.1)).Nodup->?lN=?pO
 | [],kvs,_=>by simp[G8]
 | p::more,kvs,h=>by
   have hnot:(kvs.any fun kv=>?aZ (?E=p.1))=false:=by
    rw[List.any_eq_false];intro kv hkv hd;have e:?E=p.1:=by simpa using hd
    rw[qb0,qv9]at h;exact h.2.2 ?E (qo0 hkv) p.1 ?aM e
   have e:?uN=?tU:=by
    unfold Ma;rw[?f (by rw[hnot];decide)]
   show G8 ?jU more=_;rw[e,Ny more (?tU) (by simpa using h)];simp
universe L2
namespace L2
open PySem PySem.Spec PyProof.Rows PySem.SeqAt
universe L2
namespace L2
open PySem PySem.Spec PyProof.Rows
section
variable[?bB][?aC]
theorem Bp.freeze[?Q][?eV]:∃o,?D0 (?iP) s:=by
 obtain⟨z,y,vs,r,o,es,ep,ho,c⟩:=id (?w8);refine⟨o,?_⟩;have ne:∀b u,?j5->u≠?iX->b≠a:=?pS
 have up:∀b u,?j5->u≠?iX->upd H a (?fK) b=?e u:=?AJ
 refine I.step (g':=s.gens) (t':=s.toks) (d':=s.drawn) (h':=s.heap) (H':=?iP) (ch:=[]) (fun _ q=>nomatch q) (fun b ob _ _ _ q _=>q) (fun b ob _ _ _ q _=>⟨?r2,q⟩) (fun b ob _ q n=>?r0) (fun b ob _ q=>⟨ob,q⟩)
  (fun b xs q=>?nO) (fun b ob u q=>?nO) (fun b ps q=>⟨#[],by rw[?nO];simp⟩) (fun m q=>q) (?v2) ?k5
 by_cases hb:b=a
 . subst hb;rw[Ab]at q;cases q;exact⟨ho,(?xN).stay (fun _ _ _ q=>q) (fun c q=>?i6) ?l3⟩
 . rw[Ak hb]at q;ext B4
theorem Bp.thaw{o:Obj}[?Q][?CJ](hb:?rG):?D0 (upd H a ?aF) s:=by
 have ne:∀b u,?j5->u≠?fK->b≠a:=?pS
 have up:∀b u,?j5->u≠?fK->?vW=?e u:=?AJ
 have no:∀b,H b=none->?vW=none:=fun b n=>?r0
 refine⟨I.ok,I.os,?k5,⟨I.base.keep,I.base.slot,fun b ob q n x=>no b (I.base.free b ob q n x),I.base.there,fun b xs q=>up b _ (I.base.tups b xs q) ?iD,fun b ob u q=>?_,fun b ps q=>?_⟩,I.loc,I.cell,no _ I.free,fun x c q=>no _ (I.freeC x c q),fun p hp=>?_,?v2,I.len⟩
 . have hne:b≠a:=fun z=>hb ob u (z▸q);rw[Ak hne];exact ?xD b ob u q
 . obtain⟨m,q'⟩:=I.base.tbls b ps q;exact⟨m,up b _ q' ?iD⟩
 . obtain⟨p1,p2,p3⟩:=I.pin p hp;exact⟨p1,no _ p2,p3⟩
 . by_cases hba:b=a
   . subst hba;rw[Ab]at q;cases q;obtain⟨_,q'⟩:=?xN;exact q'.stay (fun _ _ _ q=>q) (fun c q=>?i6) ?l3
   . rw[Ak hba]at q;ext B4
theorem Bp.notfrz[?Q][?eV]:?rG:=fun ob u q=>by
 have:=?xD a ob u q;rw[e]at this;cases this
theorem Bp.nodupK[?Q][?pG]:(?b0 (·.1)).Nodup:=by
 obtain⟨z,hd,vs,rel,o,es,ep,_,_,_,_,_,hn⟩:=?gQ;rw[rel.keys];exact hn
universe e9
noncomputable def tFrz(t:TE):TE:=fun σ H Q=>t σ H Q\/∃(a:Addr) (kvs:?aI),?hQ/\((?b0 (·.1)).Nodup->∀o:Obj,t σ (?iP) fun v H'=>?fW/\Q v ?fF)
noncomputable def Az6(t:TS):TS:=fun D σ H=>t D σ H\/∃(a:Addr) (kvs:?aI),?hQ/\((?b0 (·.1)).Nodup->∀o:Obj,t ⟨?DC D.nx,fun v H'=>?fW/\D.rt v ?fF,
 ?DC D.bk,?DC D.ct⟩ σ (?iP))
theorem nK{X:Cx}{e:Expr}{t:TE}(h:PE X e t):PE X e (tFrz t):=by
 intro Af s σ H Q I hw;rcases hw with hw|⟨a,kvs,ea,hw⟩
 . exact h Af s σ H Q I hw
 . obtain⟨o,I'⟩:=I.freeze ea;have hb:=I.notfrz ea;refine Du (h Af s σ _ _ I' (hw (I.nodupK (?cQ ea)) o)) fun u s' ⟨v,H',I2,r,e2,q⟩=>⟨v,_,?nU,r,q⟩
theorem gC{X:Cx}{st:Stmt}{t:TS}(h:PS X st t):PS X st (Az6 t):=by
 intro Af s σ H D I hw;rcases hw with hw|⟨a,kvs,ea,hw⟩
 . exact h Af s σ H D I hw
 . obtain⟨o,I'⟩:=I.freeze ea;have hb:=I.notfrz ea;refine Du (h Af s σ _ _ I' (hw (I.nodupK (.inl ea)) o)) fun f s' hq=>?_;cases f with
   | next=>ext oZ
   | brk=>ext oZ
   | cont=>ext oZ
   | ret u=>obtain⟨v,σ',H',I2,r,e2,q⟩:=hq;exact⟨v,σ',_,?nU,r,q⟩
theorem GV[?bB][?aC]{o:Obj}[?Q][?CJ] :
 ?gF a=?a8/\?dL/\?g4/\∃vs es ep,?dQ/\?sA/\es.size=kvs.length/\o.ExactDict/\s.heap.DictAt ?b8 a vs ep:=by
 obtain⟨ho,z,y,vs,r,o',es,ep,ho',ex,hd,hk,hp,hn⟩:=?w8;rw[ho]at ho';cases ho';refine⟨ho,y,z,vs,es,ep,r,hd,?_,ex,⟨o,es,ho,ex,hd,hk,hp,hn⟩⟩;rw[r.length,←hp.length];simp
theorem KV.getV:∀[?aC][?pC]{i:Nat}{k:Key}{v:V},?dQ->?f3->∃u,vs[i]?=?e (k,u)/\?L v u
 | _,_,i,k,v,?M,e=>?s8
 | _,_,0,k,v,?a3 (b:=q) r t,e=>by
   simp only[qs8,Option.some.injEq]at e;subst e;obtain⟨k',u⟩:=q;have e1:k=k':=r.1;subst e1;exact⟨u,?b6,r.2⟩
 | _,_,i+1,k,v,?a3 r t,e=>by
   obtain⟨u,e1,e2⟩:=KV.getV (i:=i) t (?fE);exact⟨u,?gL,e2⟩
theorem Aj5[?aD]{k:Key}{u:Value}(h:?sW):?nF:=by
 rcases Dz h with⟨i,t,rfl,rfl⟩|⟨x,t,rfl,rfl⟩
 . exact ?sD
 . exact ?sD
noncomputable def ZL(d:Addr)(o:Obj):It :=
 ⟨fun i H=>∃kvs k v,?fV/\?f3,
  fun i H x H'=>∃p k v,?b2/\x=?f6/\H'=?mU/\∀kvs,?fV->?f3,
  fun i H=>∃kvs,?fV/\kvs.length<=i⟩
theorem Wb[?pE][?bT]{s:Shared}{it d:Addr}{i n ep:Nat}{ok ov:Value}[?eU](hit:?AR ?O it d i n ep ok ov)(h:Q ?f4 s):?CT ?e7 (pyIter ?f4):=by
 have hT:?o8 ?f4 ?sF:=(?E8 hit)
 refine wpAny_pyIter_slot hT qu7 (ql1 qu7 hT (entryFor_alias (id':="dict_keyiterator.__iter__") ?k7 rfl (?i7) ?k7:?tJ table "dict_itemiterator.__iter__"=?e Builtin.«dict_keyiterator.__iter__») ?_ (PySem.F.args_dict_itemiterator_iter_1 _));show ?p _ _ (ret ?f4) _ _ s;exact qc6 ⟨_,rfl,?sF,_,hT,PySem.F.slot_dict_itemiterator_next.lookup,h⟩
theorem fO[?aD]{K:W.Frag}{tes:?bJ}{x1:Nat}{tpos:Pos}(d it:Addr)(o:Obj){es:Array DictEntry}{ep:Nat}(hd:?sA) :
 Wp P w K (?DS tes) (?d1) ?eB it (fun i h=>∃ok ov,?AR h it d i es.size ep ok ov) where
 mem:=?b6
 obj:=fun i h st b hb=>by
  obtain⟨ok,ov,h1⟩:=st;have z:b=it:=?bS
  subst z;exact⟨_,h1,?qW⟩
 keep:=fun i h h' st k=>by
  obtain⟨ok,ov,h1⟩:=st;exact⟨ok,ov,k it ?aM _ h1⟩
 item:=by
  ext eS;ext pA;obtain⟨kvs,k,v,hz,hx⟩:=hg;ext BB;obtain⟨u,hu,ru⟩:=rel.getV hx;ext BW
  have fi:=?AP;have lti:?D2 it:=qb3 hit;ext BQ;rw[hn]at hit;refine wpAny_pyNext_items_item hit hm hu fun key h' hkey hout htup hsz' hk=>?_;refine⟨_,rfl,wpAny_letOwnedTupleGo_items hout fun h3 hen Oo=>?_⟩
  replace Oo:?nS it h' h3:=Oo
  have kk:∀b ob,b ∉ ?eB->?tZ->?iG b=?h6:=fun b ob n z=>by
   have n1:b≠it:=by simpa using n
   exact(?bH b n1).trans (hk b ob n1 z)
  have tH:?E4 key u:=(?bH _ (qk8 lti)).trans htup;have g7:∀c ob,H c=?h6->c ∉ ?eB:=fun c ob e hm=>?yQ
  have S7:∀b ob,H b=?h6->?q0:=fun b ob z=>Ar z ?i0;refine⟨?bR,?tB,?_,rfl,⟨?v,k,v,?i0,rfl,rfl,fun kvs' q=>by rw[hz]at q;cases q;exact hx⟩,⟨_,_,by rw[hn];exact hen⟩,?iN⟩
  . refine Bp.step (s:=s) (h':=h3) (t':=s.toks) (H':=?tB) I (g':=s.gens) (d':=s.drawn) (ch:=?eB) (?iN) (fun b ob _ _ hb z _=>?l4) (fun b ob _ _ hb z _=>⟨?r2,?l4⟩) (fun b ob hb z n=>?_) (fun b ob hb z=>⟨ob,?l4⟩)
     (fun b ys z=>?sY) (fun b ob w' z=>?sY) (fun b ps z=>⟨#[],by rw[Ak (S7 b _ z),z];simp⟩) (fun m hm=>?_) (fun b w' z=>?_) ?k5
    . have f:=hf b hb;ext BV
    . rw[Ak (?EV z)];exact n
    . obtain⟨ob,es',zA,hob,r⟩:=hm;exact⟨ob,es',zA,?EP ob hob,r⟩
    . by_cases hb:b=s.heap.objs.size
      . subst hb;rw[Ab]at z;cases z;exact⟨(?EK 2),[key,u],?a3 (Aj5 hkey) (?a3 ru ?M),?q7⟩
      . rw[Ak hb]at z;refine(?a6 b w' z).stay (fun c y hc' q=>?_) (fun c q=>?qK) fun c ys q=>?qK
        rcases hc' with rfl | hc'
        . exact ?EA z
        . exact ?y4
  . have z:b=it:=?bS
    subst z;rw[Ak (qc9 lti)];exact(hf b hb).1
 done:=by
  ext eS;ext pA;obtain⟨kvs,hz,hx⟩:=hg;ext BB;ext BW
  have hl2:=rel.length;rw[hn]at hit;exact wpAny_pyNext_items_end ?iY hit hm (?iE) fun h' eb=>(?EI ?eB (fun b ob hb z=>eb b ob (?bS) z))
 self:=fun _ _ _ _ _ st h=>by
  ext pA;exact Wb hit h
inductive JW(R:It->?fG)(x:V)(H1:Hp):Prop
 | mk:∀d o kvs,(x=?h d)->(H1 d=?hI)->(R (?d1) H1)->?r1
noncomputable def yG(td:TE):TI:=fun σ H R=>td σ H fun x H1=>?r1
theorem Pe{X:Cx}{tes:?bJ}{x1:Nat}{tpos apos cpos:Pos}{e:Expr}{td:TE}(he:PE X e td)
 (hbase:?yZ e "items" ?w (?nW)=?nW:=by rfl) (hline:?sN:=by rfl):PI X (?DS tes) (?cJ (?l8 e "items" apos) [] [] ?cH) (yG td):=by
 intro Af s σ H R I h;refine wpAny_Call_method0_late hbase hline (Du (?FI he) fun v s1 _z=>?_);obtain⟨x,H1,I1,r1,d,o,kvs,ex,hz,q⟩:=_z;subst ex;obtain rfl:v=?cP d:=r1;obtain⟨ho,hsys,hl,vs,es,ep,rel,hd,hsz,exd,hm⟩:=GV I1 hz;refine⟨?cK,"dict.items",qs4,?uP,PySem.F.type_dict_items,⟨o,ho,exd.1⟩,fun b e=>by cases e;exact⟨o,ho,exd.2.1⟩,qq1 rfl (PySem.evalArgs_none ?_)⟩;refine ?dA ?uP hm.dictOf.typeIs PySem.F.entry_dict_items (PySem.F.args_dict_items_1 _) (meets_dict_items ?b8 d hsys) ⟨⟨vs,hm.dictOf⟩,?_⟩;have I2:?D0 H1 ?yU:=?FF ?jF ?zN;have hm2:=hm.push ?mS;refine wpAny_pyIter_items (s:=?yU) (v:=s1.heap.objs.size) (d:=d) ?zI hm2 ?_;have hsz2:?AL=?wE:=qi3 ..;refine⟨_,[_],_,?d1,H1,rfl,?FF I2.kept ?zN,fO d _ o hd,⟨?J,?J,?_⟩,?iN,q⟩
 . rw[hsz,rel.length];exact ?fU
 . have z:b=?AL:=?bS
   subst z;ext C5
section
variable[?BZ]
theorem Zi{d:Addr}{o:Obj}[?aC][?CA](hl:∀i zs τ H,?hO->?d6->?fV)
 (hs:∀i k v zs τ H p,?f3->?d6->?b2->g ?cC τ (?mU) ?z7)
 (hd:?F2 ?o4):Sc (?d1) g tc te D Q τ H:=by
 refine⟨fun i m zs τ H=>m=kvs.length-i/\?hO/\?d6,?yK,?_⟩;rintro i m zs τ H ⟨rfl,hi,pp⟩;have q:=?pT;by_cases hlt:?uZ
 . refine ?DV ?xJ ?yY;obtain⟨p,k,v,hp,rfl,rfl,y⟩:=y;exact hs i k v zs τ _ p ?zR pp hp
 . have e:?xV:=O9m
   subst e;exact ?cQ ⟨?zC,?vS⟩
theorem U2{d:Addr}{o:Obj}[?aC][?BK](hl:∀i σ H,?hO->?fQ->?fV)
 (hs:∀i k v σ H p,?f3->?fQ->?b2->g ?cC σ (?mU) ?q3) (hd:∀σ H,Pv ?o4 σ H->?iV) :
 ∃W:?pZ,(∃m,W 0 m σ H)/\∀i m σ H,?A3 →
   ((?d1).stop i H/\?iV)\/((?d1).go i H/\∃N:?j4,?CP ?d1):=by
 refine⟨fun i m σ H=>m=kvs.length-i/\?hO/\?fQ,?yK,?_⟩;rintro i m σ H ⟨rfl,hi,pp⟩;have q:=hl i σ H hi pp;by_cases hlt:?uZ
 . refine .inr ⟨?xJ,?eJ,fun σ' H' p'=>?yY,?oR⟩;obtain⟨p,k,v,hp,rfl,rfl,y⟩:=y;exact hs i k v σ _ p ?zR pp hp
 . have e:?xV:=O9m
   subst e;exact ?cQ ⟨?zC,hd σ H pp⟩
universe e9
universe L2
namespace L2
open PySem PySem.Spec PyProof.Rows PySem.SeqAt
theorem Yh{ms:?dY}:((cK ms).map (·.1)).Nodup↔(?jE (·.1)).Nodup:=by
 unfold cK List.Nodup;rw[qm0,List.pairwise_map,List.pairwise_map];constructor
 . intro h;exact h.imp fun {a b} n z=>n (by simp[z])
 . intro h;exact h.imp fun {a b} n z=>n (by simpa using z)
section
variable[?bB]{ms:?dY}
universe e9
section
variable{X:Cx}{n:Nat}{K:W.Frag}
inductive FG[?pD]:Prop
 | mk:∀a kvs,(xs=[?R,.ty ?cK])->(?fP)->(Q (?zO) H)->?tY
noncomputable def rH:?nC:=fun xs H Q=>?tY
theorem eY:F0 X (?jO "isinstance") rH:=by
 ext BN;obtain⟨u,v,rfl,rx,rt⟩:=CZ r;cases rt;cases rx;obtain⟨z,hd,vs,rel,o,es,ep,ho,ex,_⟩:=?gQ;exact PySem.IsiPair.dict_dict ho ex.1 ⟨?zO,H,I,rfl,q⟩
universe e9
universe L2
namespace L2
open PySem PySem.Spec PyProof.Rows
inductive JV[?pD]:Prop
 | mk:∀a kvs,(xs=[?R])->(?fP)->(?FJ ?aF)->?yI
noncomputable def wX:?nC:=fun xs H Q=>?yI
theorem HU{X:Cx}:F0 X (?G ?cK) wX:=by
 ext BN;obtain⟨u,rfl,rx⟩:=Vf r;cases rx;exact pJ I e fun p s' hp I'=>⟨?f6,_,I',rfl,q p hp⟩
theorem u1{n c:Nat}(h:n+8<c):n+1<c:=O9m
noncomputable def Da[?aB](k:Int):Int:=(?gC).getD 0
noncomputable def putI[?aB](k v:Int):?dY:=if (ms.any ?k0)=true then ?DX ?jE else ms++[(k,v)]
noncomputable def Hw[?aB](k:Int):?dY:=ms.filter fun p=>?aZ (p.1≠k)
theorem HW[?aB](k v:Int):Ma (cK ms) (?dF) (?aK v)=cK (putI ms k v):=by
 unfold Ma putI cK
 have e:((?jE fun p=>?rT).any fun kv=>?aZ (?E=?dF))=(ms.any ?k0):=by
  rw[List.any_map]
  congr 1
  funext p
  simp
 rw[e];split
 . rw[qm0,qm0]
   congr 1
   funext p
   simp only[Function.comp];by_cases q:?a1
   . simp[q]
   . have q':¬?tX=?dF:=fun z=>q (by simpa using z);simp[q]
 . simp
theorem tY[?aB](k:Int):Vw (cK ms) (?dF)=cK ?y1:=by
 unfold Vw Hw cK;rw[List.filter_map]
 congr 1
 congr 1
 funext p
 simp
theorem HV[?aB](k:Int):Oq (cK ms) (?dF)=(?gC).map ?aK:=by
 unfold C3 cK Oq;rw[List.find?_map,Option.map_map,Option.map_map]
 have e:((fun p:?j6=>?aZ (p.1=?dF)) ∘ fun p:?i5=>?rT)=fun p:?i5=>?rB:=by
  funext p
  simp
 rw[e];rfl
theorem jN[?aB](k:Int):((?gC).map ?aK).getD (?aK 0)=?aK (Da ms k):=by
 unfold Da;cases ?gC<;>rfl
theorem Dl(p:?i5)[?aB](k:Int):C3 (p::ms) k=if ?a1 then ?e p.2 else ?gC:=by
 unfold C3;by_cases q:?a1
 . rw[List.find?_cons_of_pos (by simpa using q),?g q];rfl
 . rw[List.find?_cons_of_neg (by simpa using q),?f q]
theorem LB[?aB](k v j:Int):C3 (putI ms k v) j=if j=k then ?e v else C3 ms j:=by
 have hs:∀[?pF],C3 (?DX ns.map) j=if j=k then(?o9).map (fun _=>v) else ?o9:=by
  intro ns
  induction ns with
  | nil=>simp[C3]
  | cons p ns ih =>
    rw[qd5,Dl,Dl,ih];by_cases e1:?a1
    . by_cases e2:j=k
      . simp[e1,e2]
      . have e3:¬k=j:=?AF;simp[e1,e2,e3]
    . by_cases e2:j=k
      . simp[e1,e2]
      . simp[e1,e2]
 have hn:∀[?pF],(ns.any ?k0)=(C3 ns k).isSome:=by
  intro ns
  induction ns with
  | nil=>rfl
  | cons p ns ih =>
    rw[qm2,Dl,ih];by_cases e1:?a1<;>simp[e1]
 have ha:∀[?pF],C3 (ns++[(k,v)]) j=(?o9).or (if k=j then ?e v else none):=by
  intro ns
  induction ns with
  | nil=>simp[Dl,C3]
  | cons p ns ih =>
    rw[List.cons_append,Dl,Dl,ih];by_cases e1:p.1=j<;>simp[e1]
 unfold putI;rw[hn];cases q:C3 ms k with
 | some z =>
   simp only[Option.isSome_some,if_true];rw[hs];ext Y
   . subst e;simp[q]
   . simp[e]
 | none =>
   simp only[Option.isSome_none,qr2,if_false];rw[ha];ext Y
   . subst e;simp[q]
   . have e':¬k=j:=?uH;simp[e,e']
theorem GN[?aB](k j:Int):C3 ?y1 j=if j=k then none else C3 ms j:=by
 unfold Hw
 induction ms with
 | nil=>simp[C3]
 | cons p ms ih =>
   rw[qi1,Dl];by_cases e1:?a1
   . rw[?f (?gL),ih];by_cases e2:j=k
     . simp[e2]
     . have e3:¬p.1=j:=fun z=>e2 (by rw[←z,e1]);simp[e2,e3]
   . rw[?g (?gL),Dl,ih];by_cases e2:j=k
     . subst e2;simp[e1]
     . simp[e2]
section
variable[?aD]{K:W.Frag}{mg:Str->?f7}{base:Heap}
universe e9
section
variable{X:Cx}{x:Str}{ps:?o Str}{j k:Nat}{sp:Sp}{p pos:Pos}{e:Expr}{es:?bJ}{t:TA}
universe e9
theorem Qu{α β:Type}{F:α->β->Prop}:∀{l:?o α}{m:?o β},l.length=m.length->(∀(i:Nat) (x:α) (y:β),l[i]?=?eR->m[i]?=?e y->F x y)->?lC F l m
 | [],[],_,_=>?M
 | [],_::_,h,_=>?qT
 | _::_,[],h,_=>?qT
 | x::l,y::m,h,f=>?a3 (f 0 x y rfl rfl) (Qu (by simpa using h) fun i a b ha hb=>f ?m a b (by simpa using ha) (?bS))
noncomputable def iK(n:Nat):?o Int:=(List.range n).map fun ?n9=>?o7
theorem P4(n:Nat):(iK n).length=n:=by simp[iK]
theorem qS{n i:Nat}(h:i<n):(iK n)[i]?=?e ?o7:=by
 unfold iK;rw[qa8,qm1 h];rfl
inductive PY(Q:VK)(vs:?dJ)(H1:Hp):Prop
 | mk:∀n:Nat,(vs=[?I ?c9])->(n<=1000000)->(∀l,H1 l=none->Q (?h l) (upd H1 l (.lst (?EH n))))->?qZ
noncomputable def Ae1(ta:TA):TE:=fun σ H Q=>?DZ ?qZ
theorem bN{X:Cx}{a:Expr}{ta:TA}{p q pos pos2:Pos}(hc:?zJ)(hg1:Gl X ?dM)(hm1:X.mg ?dM=none)(hg2:?qX)(hm2:?yP)(ha:PA X [a] ta)
 (hs:?cY [a] ?w=[?nK]:=by rfl) (hs2:?cY [?nH] ?w=[(?bE,?cT (?nH) ?w)]:=by rfl) :
 PE X (?ED ?dM [?nH]) (Ae1 ta):=by
 intro Af s σ H Q I h;refine Call_ (Jt I hg1 hm1 Db (qf1 ?_ hs2 rfl));rw[hs2];refine qn1 ?_;refine Call_ (Jt I hg2 hm2 boot_range (qf1 (Du (ha pos2 Af s σ H _ I h) fun us s1 _z=>?_) hs rfl));obtain⟨vs,H1,I1,r1,q1⟩:=_z;obtain⟨n,e,hn,q⟩:=q1;subst e;obtain⟨u,rfl,ru⟩:=Vf r1;obtain⟨t,rfl⟩:=ru;refine call_range_1 (?lU);have I2:=?jF (h':=?fT { cls:=?G ?c5,data:=?bF #[?I 0 s1.toks,?I ?c9 t,?I 1 (?sE)] }) (t':=?sE+1) ?nT;refine call_list_range (n:=n) (I2.ok.hd hc) (IsRange.new ..) (small_one ?D ?D O9m O9m) ?_ O9m fun h' tk acc' c' kp e it=>?_
 . rw[rangeSize_one];ext Z
 . obtain⟨sz,get⟩:=it;have hf:=I2.hok.fresh ?j;have hz:(?EH n).length<=sizeLine:=by rw[qa2,P4,sizeLine_eq];omega
   have rel:Vals (?EH n) ?t5:=by
    refine Qu ?_ ?_
    . rw[qa2,P4];simpa using sz.symm
    . intro i x y hx hy
      have hi:i<n:=by
       have:=(qa3.mp hx).1
       rwa [qa2,P4]at this
      rw[qa8,qS hi]at hx;cases hx;obtain⟨t',rfl⟩:=get i y (by simpa using hy);exact⟨t',?b6⟩
   refine⟨?h _,_,I2.laid (t':=tk) kp ?j (show ?bN ?iJ X.w _ h' _ (.lst (?EH n)) from⟨hz,?t5,c',rel,?_⟩),rfl,q _ hf⟩;simpa using e
noncomputable def Itd(hi:Int)(n:Nat):It:=⟨fun i _=>i<n,fun i H x H'=>H'=H/\x=?nP,fun i _=>n<=i⟩
theorem Pd(a b:Int):?qV a b ?q=if b<a then a-b else 0:=by
 unfold Builtin.Range.rangeSize;rw[?f ?D];split
 . show(a-b-1) / 1+1=a-b;rw[Int.ediv_one];omega
 . rfl
theorem FU{a b:Int}(ha:-(?hF)<=a)(ha':a<?hF)(hb:-(?hF)<=b)(hb':b<?hF):Builtin.Range.small a b ?q=true:=by
 unfold Builtin.Range.small;rw[Pd];simp only[Builtin.Range.rangeFitsLong,qc8,qq6,qp3,qv7];split<;>simp<;>omega
theorem kD[?aD]{K:W.Frag}{tg:Expr}(it:Addr)(hi:Int)(n:Nat):Wp P w K tg (?kA) ?eB it (fun i h=>?xL h it (hi+?n9*?q) (?c9-?n9) ?q) where
 mem:=?b6
 obj:=fun i h st b hb=>by
  have e:b=it:=?bS
  subst e
  exact⟨_,st,fun v z=>by
   have z':Data.fields _=Data.cell v:=z;cases z'⟩
 keep:=fun i h h' st k=>k it ?aM _ st
 item:=by
  ext eS;ext C0;have W:=Walks.range (prog:=X.prog) (w:=X.w) ?iY it hi ?q n;refine W.item i s _ _ hg st fun v h' tk hv st' kk=>?_;obtain⟨t,rfl⟩:=hv;have I1:?D0 H ?jD:=?vD (fun b o hb e=>kk b o (?bS) e) f0 f1 f3 f4 f5;refine⟨_,rfl,JG (s:=?jD) (n:="range_iterator") st' rfl rfl ?D ⟨?nP,H,I1,⟨t,?_⟩,?wP,st',fun b hb=>(hf b hb).1⟩⟩;rw[show hi+?o7*?q=hi-i by omega]
 done:=by
  ext eS;ext C0;exact wpAny_pyNext_range_end ?iY st (by have:n<=i:=hg;omega) fun h' eb=>⟨rfl,?vD (t':=s.toks) (fun b o hb e=>eb b o hb e) f0 f1 f3 f4 f5⟩
 self:=fun _ _ _ _ _ st h=>wpAny_pyIter_rangeiter st h
inductive QF[?CI]:Prop
 | mk:∀(n:Nat),(vs=[?I ?bW,?I ?q,?I ?q])->(n<=1000000)->(R (Itd ?bW n) H1)->?qM
noncomputable def Ak1(ta:TA):TI:=fun σ H R=>?DZ ?qM
theorem RQ{X:Cx}{tg:Expr}{a b c:Expr}{ta:TA}{p pos:Pos}(hg:?qX)(hm:?yP)(ha:PA X ?nE ta)(hs:?cY ?nE ?w=[?nK,?i8,?zV]:=by rfl)(hs2:?cY [b,c] ?w=[?i8,?zV]:=by rfl) :
 PI X tg (?ED ?c5 ?nE) (Ak1 ta):=by
 intro Af s σ H R I h;refine Call_ (Jt I hg hm boot_range (qf1 (Du (ha pos Af s σ H _ I h) fun us s1 ⟨vs,H1,I1,r1,q1⟩=>?_) (by rw[hs,hs2]) (by rw[hs2];rfl)));obtain⟨n,e,hn,q⟩:=q1;subst e;cases r1 with
 | cons r rr =>
   cases rr with
   | cons r' rr =>
     cases rr with
     | cons r'' rr =>
     cases rr;obtain⟨t,rfl⟩:=r;obtain⟨t',rfl⟩:=r';obtain⟨t'',rfl⟩:=r'';refine call_range_3 ?D ?_ (Or.inl (PyProof.noPylong_small O9m));refine wpAny_pyIter_range (IsRange.new ..) (FU O9m O9m O9m O9m) ?_;have I2:Bp X Af σ H1 { s1 with heap:=?CZ t,toks:=s1.toks }:=?jF ?nT
     refine⟨?vX,[_],_,_,H1,rfl,
      ?FF I2.kept ?nT,kD _ ?bW n,?_,?iN,q⟩
     . have e1:?vM=?c9-1:=?b6
       have e2:?c9-?oK=?qV ?bW ?q ?q:=by rw[Pd];ext Z
       show ?xL _ _ (?vM) (?c9-?oK) ?q;rw[e1,e2];exact ?fU
     . have e:b=?vX:=?bS
       subst e;ext C5
theorem OY{hi:Int}{n:Nat}[?BK]
 (hs:∀i σ H,i<n->?fQ->g (?nP) σ H ?q3) (hd:∀σ H,Pv n σ H->?iV) :
 ∃W:?pZ,(∃m,W 0 m σ H)/\∀i m σ H,?A3 →
   ((?kA).stop i H/\?iV)\/((?kA).go i H/\∃N:?j4,?CP ?kA):=by
 refine⟨fun i m σ H=>m=n-i/\i<=n/\?fQ,?qJ,?_⟩;rintro i m σ H ⟨hm,hi',hp⟩;by_cases hlt:i<n
 . refine .inr ⟨hlt,?eJ,fun σ' H' h=>⟨n-?m,O9m,rfl,O9m,h⟩,?_⟩;rintro x H' ⟨rfl,rfl⟩;exact hs i σ _ hlt hp
 . refine .inl ⟨by show n<=i;omega,hd σ H (by have:i=n:=O9m
                                              subst this;exact hp)⟩
universe L2
namespace Lat
open Hb
noncomputable abbrev Mat:=?xX
theorem Bj[?d4]{n:Nat}(h:∀k,k<n->f k=0):?bL=0:=by rw[Ao h,P5]
theorem sumN_one[?d4]:∀{n j:Nat},j<n->(∀k,k<n->k≠j->f k=0)->?bL=f j
 | n+1,j,hj,h=>by
   show ?bL+f n=f j;by_cases e:j=n
   . subst e;rw[Bj fun k hk=>h k ?c ?c];omega
   . rw[?aW (n:=n) (j:=j) ?c (?EX h ?c),h n ?c (?uH)];omega
noncomputable def In(w n:Nat)(R:Mat)(v:?i):Prop:=∃x:?i,∀c,c<w->v c=?DL n
theorem In.row{w n:Nat}{R:Mat}{j:Nat}(hj:j<n):?ES R ?dE:=⟨fun k=>if k=j then 1 else 0,fun c _=>by
 rw[Dk (fun k=>R k c) j n,?g hj]⟩
theorem In.zero(w n:Nat)(R:Mat):?ES R (?fJ):=⟨?fJ,fun c _=>by rw[Bj];intro k _;simp⟩
theorem In.mix[?CB](hv:?nD)(a b:Int):?ES R (?nQ):=by
 obtain⟨x,hx⟩:=hu;obtain⟨y,hy⟩:=hv;refine⟨fun k=>a*x k+b*y k,?aS⟩;show ?v3=_;rw[?e0,hy c hc,←Bh,←Bh,←De];refine Ao ?jI;rw[Int.add_mul,qe6,qe6]
theorem In.congr[?CB](h:∀c,c<w->u c=v c):?nD:=by
 obtain⟨x,hx⟩:=hu;exact⟨x,fun c hc=>by rw[←?jB];exact ?e0⟩
structure Dj(w r:Nat)(R:Mat)[?C]:Prop where
 lt:?oE
 inc:∀j k,j<k->k<r->?lS
 zero:∀j c,j<r->?mE
 pos:∀j,j<r->0<?S
 red:∀k j,k<j->j<r->?r6
theorem Dj.mono[?gZ][?l][?h1]:∀j k,j<=k->k<r->t j<=t k:=fun j k h1 h2=>by
 rcases qg0 j k with z | z
 . exact qd4 (?b1 j k z h2)
 . rw[show j=k by omega];exact ?cI
theorem Dj.ge[?gZ][?l][?h1]:∀j,j<r->j<=t j
 | 0,_=>?b7
 | j+1,hj=>by
   have:=h.ge j O9m;have:=?b1 j ?H O9m hj;omega
theorem Dj.lead[?gZ][?l][?h1]{v x:?i}(hx:∀c,c<w->v c=?y0) :
 ∀j,j<=r->(?w9)->(∀k,k<j->x k=0)/\(j<r->?c4=x j*?S):=by
 intro j
 induction j with
 | zero =>
   intro _ _;refine⟨?kW,?yA⟩;rw[hx _ (h.lt 0 hr),?sC];rw[?U k _ hk (?b1 0 k ?c hk)];simp
 | succ j ih =>
   intro hj hv;obtain⟨h1,h2⟩:=ih O9m (?EX hv O9m)
   have hxj:x j=0:=by
    have e:=h2 O9m;rw[hv j ?c]at e;rcases ?mC e.symm with z | z
    . exact z
    . have:=?f1;omega
   have hall:∀k,k<j+1->x k=0:=fun k hk=>by
    by_cases e:k=j
    . rw[e];exact hxj
    . exact h1 k O9m
   refine⟨hall,?yA⟩;rw[hx _ (h.lt _ hr),?sC];by_cases e:k<j+1
   . rw[hall k e];simp
   . rw[?U k _ hk (?b1 ?H k ?c hk)];simp
theorem Dj.only[?gZ][?l][?h1]{v:?i}(hv:?AK){j:Nat}(hj:j<r)(h0:?w9)(h1:?c4=?S)(h2:∀k,j<k->k<r->v ?z=0):∀c,c<w->v c=?bI:=by
 obtain⟨x,hx⟩:=hv;obtain⟨a1,a2⟩:=h.lead hx j O9m h0
 have xj:x j=1:=by
  have e:=a2 hj;rw[h1]at e;have p:=?m9;have:(x j-1)*?S=0:=by rw[Int.sub_mul];omega
  rcases ?mC ?aR with z | z<;>omega
 have rest:∀m,m<=r->∀k,j<k->k<m->x k=0:=by
  intro m
  induction m with
  | zero=>intro _ k _ hk;omega
  | succ m ih =>
    intro hm k hjk hk;by_cases e:k<m
    . exact ih O9m k hjk e
    have ek:k=m:=O9m
    subst ek;have hv2:=h2 k hjk O9m
    have e2:v ?z=R j ?z+?f2:=by
     rw[hx _ (h.lt k ?c)]
     have:Al (fun i=>x i*?lR) r=Al (fun i=>((?kY)*?lR)+((if i=k then 1 else 0)*(?f2))) r:=by
      ext kO;by_cases e1:i=j
      . subst e1;rw[xj,?t,?n];simp
      . rw[?P];by_cases e3:i=k
        . subst e3;rw[?t];simp
        . rw[?oN];by_cases e4:i<j
          . rw[a1 i e4];simp
          . by_cases e5:i<k
            . rw[ih ?c i ?c e5];simp
            . rw[?U i _ hi (?b1 k i ?c hi)];simp
     rw[this,De,Dk (fun i=>?lR) j r,?g hj,Dk (fun _=>?f2) k r,?W]
    rw[hv2]at e2;obtain⟨r0,r1⟩:=?dD j k hjk O9m;have p:=?a4 k O9m;rcases Int.lt_trichotomy (x k) 0 with z | z | z
    . have:?f2<=-1*?cW:=?hB;omega
    . exact z
    . have:1*?cW<=?f2:=?hB;omega
 intro c hc;rw[?e0,?aW hj ?mA,xj,qd1];by_cases e:k<j
 . rw[a1 k e];simp
 . rw[rest r ?j k ?c hk];simp
structure Ep[?bD](T T':Mat):Prop where
 fwd:∀i,i<n->?ES T (T' i)
 bwd:∀i,i<n->?ES T' (T i)
 st:∃r t,?b3/\?g1/\?jV
theorem In.sub{w n r:Nat}{R:Mat}{v:?i}(h:?nD)(hr:?b3)(hz:∀i c,?aQ->i<n->c<w->?fD):?AK:=by
 obtain⟨x,hx⟩:=h;refine⟨x,?aS⟩;rw[?e0]
 have:∀m,r<=m->m<=n->?DL m=?y0:=by
  intro m
  induction m with
  | zero=>intro h1 _;rw[show r=0 by omega]
  | succ m ih =>
    intro h1 h2;by_cases e:r=m+1
    . rw[e]
    . show Al _ m+x m*R m c=_;rw[?xK,hz m c ?c ?c hc];simp
 exact ?aR n hr ?j
noncomputable def Ng(n w k:Nat)(T:Mat):Prop:=k<=n/\k<=w/\(∀j,j<k->0<T j j)/\(∀j c,j<k->c<w->c≠j->?cR=0)/\(∀i j,i<n->j<k->?tF)
theorem Ng.flip{n w k:Nat}{T:Mat}(h:?h8):Ng w n k (?wU):=⟨h.2.1,h.1,h.2.2.1,fun j c hj hc hne=>h.2.2.2.2 c j hc hj hne,fun i j hi hj hne=>h.2.2.2.1 j i hj hi hne⟩
noncomputable def JQ(n w k:Nat)(T:Mat):Prop:=?h8/\k<n/\k<w/\0<?aE/\∀c,c<w->c≠k->?gO=0
theorem Ep.keep{n w:Nat}{T T':Mat}(s:?lY):∀{k:Nat},?h8->Ng n w k T'/\(∀j c,j<k->c<w->T' j c=?cR)/\∀r t,?b3->?g1->(?jV)->k<=r/\∀j,j<k->t j=j:=by
 intro k
 induction k with
 | zero =>
   intro h;exact⟨⟨?b7,?b7,?eE,?i2,fun i j _ hj=>O9m⟩,?i2,fun r t _ _ _=>⟨?b7,?eE⟩⟩
 | succ k ih =>
   intro h;obtain⟨hn,hw,hp,hr,hc⟩:=h;obtain⟨c1,c2,c3⟩:=ih ⟨O9m,O9m,fun j hj=>?wJ,fun j c hj=>hr j c O9m,fun i j hi hj=>hc i j hi O9m⟩
   have key:∀r t,?b3->?g1->(?jV)->k<r/\?hA/\(∀c,c<w->T' k c=?gO):=by
    intro r t gQ hst hz;obtain⟨kr,ht⟩:=?pQ;have hin:=(s.bwd k O9m).sub gQ hz;obtain⟨x,hx⟩:=?oM;have v0:?rM:=fun l hl=>by rw[ht l hl];exact hc k l O9m O9m O9m
    obtain⟨x0,_⟩:=?oG;have hpk:=hp k O9m
    have hlt:k<r:=by
     ext eW
     have:?k2:=by
      rw[?tW];ext p1
     omega
    have htk:?hA:=by
     have g:=?vP;refine qi4 ?g5 g
     have:?k2:=by
      rw[?tW];ext kP;by_cases e:l<k
      . rw[x0 l e];simp
      . ext BJ
     omega
    obtain⟨_,a2⟩:=?oG;ext BF;obtain⟨y,hy⟩:=s.fwd k O9m
    have e2:?aU=y k*?aE:=by
     rw[hy k ?c];exact ?aW O9m fun l hl hne=>by rw[hc l k hl ?c hne];simp
    have same:?aE=?aU:=by
     ext BX
     have d2:?aE∣ ?aU:=⟨y k,by rw[e2,qf7]⟩
     exact Int.le_antisymm (?s5) (ql0 hpk d1)
    refine⟨hlt,htk,fun c hcw=>?_⟩;exact(?s9 hin hlt v0 (by rw[htk];exact same) (fun l hl1 hl2=>hr k ?r O9m (?d0 l hl2) (?EQ l)) c hcw).symm
   obtain⟨r,t,gQ,hst,hz⟩:=s.st;obtain⟨k1,k2,k3⟩:=?w3;refine⟨⟨hn,hw,?aL,?vT,?xA⟩,fun j c hj hcw=>?_,fun r t gQ hst hz=>?_⟩
   . ext Y
     . subst e;rw[k3 j ?c];exact ?wJ
     . exact c1.2.2.1 j O9m
   . ext Y
     . subst e;rw[?xT];exact ?F1 hr
     . exact ?F1 ?v0
   . ext Y
     . subst e;by_cases e2:i<j
       . exact ?v0 i j e2 O9m O9m
       . by_cases e3:i<r
         . exact ?DR j j
         . exact hz i j O9m hi O9m
     . exact c1.2.2.2.2 i j hi O9m hne
   . ext Y
     . subst e;exact ?xT
     . exact c2 j c O9m hcw
   . obtain⟨a,b,_⟩:=?w3;obtain⟨_,ht⟩:=?pQ;refine⟨a,?aL⟩;ext Y
     . rw[e];exact b
     . exact ?vH
noncomputable def Vb[?bD](T Nc:Mat):Prop:=∃T',?lY/\Ep w n (fun i j=>T' j i) (fun i j=>Nc j i)
noncomputable def Straight[?bD](T:Mat):Prop:=∀i j,i<n->j<w->?tF
theorem Vb.next[?CG](h:?h8):?sT/\(Straight n w Nc\/?vA):=by
 obtain⟨T',s1,s2⟩:=s;obtain⟨h1,_,h3⟩:=s1.keep h;obtain⟨g1,_,g3⟩:=?z9;have hc:?sT:=g1.flip;refine⟨hc,?_⟩;obtain⟨r,t,gQ,hst,hz⟩:=s1.st;obtain⟨q,u,hqw,i6,OR⟩:=s2.st;obtain⟨kr,ht⟩:=?rP;obtain⟨kq,hu⟩:=?pN;by_cases e:k<r
 . right;have p:=?jC k e;have tw:=?d0 k e;have tk:k<=t k:=?gR k e;have hin:=(?mY ?z tw).sub hqw OR;obtain⟨x,hx⟩:=?oM
   have v0:∀l,l<k->(?DG ?z) ?jA=0:=fun l hl=>by
    show T' ?jA ?z=0;rw[hu l hl];exact ?hN l ?z hl tw O9m
   obtain⟨x0,_⟩:=i6.lead hx k kq v0;have hkn:k<n:=O9m
   have zV:k<q:=by
    ext eW
    have:T' k ?z=0:=by
     show(?DG ?z) k=0;rw[?AS];ext p1
    omega
   have huk:u k=k:=by
    refine ?qN
    have:T' k ?z=0:=by
     show(?DG ?z) k=0;rw[?AS];ext kP;by_cases e2:l<k
     . rw[x0 l e2];simp
     . show x l*?mQ=0;ext BC
    omega
   have p2:=?yV;rw[huk]at p2;refine⟨hc,hkn,O9m,p2,?u7⟩;rcases qg0 c k with z | z
   . exact hc.2.2.2.2 k c hkn z O9m
   . by_cases e3:c<q
     . exact ?DP e3 e3
     . exact OR c k O9m hcw hkn
 . left;have T'0:∀i c,k<=i->?tE:=fun i c hi hin hcw=>hz i c O9m hin hcw;intro i j hi hj hne;rcases qg0 i k with z | z
   . exact hc.2.2.2.1 i j z hj (fun w=>hne w.symm)
   . obtain⟨y,hy⟩:=s2.fwd j hj;have:Nc i j=Al (fun l=>y l*T' i l) w:=hy i hi;rw[this];exact Bj fun l hl=>by rw[T'0 i l z hi hl];simp
theorem Vb.less[?CG](h:JQ n w k T):Ng n w ?eP Nc\/(?vA/\?oL∣ ?aE/\?oL<?aE):=by
 obtain⟨hcl,hn,hw,hp,hr⟩:=h;have s0:=s;obtain⟨T',s1,s2⟩:=s;obtain⟨h1,_,h3⟩:=s1.keep hcl;obtain⟨r,t,gQ,hst,hz⟩:=s1.st;obtain⟨kr,ht⟩:=?rP;have hin:=(s1.bwd k hn).sub gQ hz;obtain⟨x,hx⟩:=?oM;have v0:?rM:=fun l hl=>by rw[ht l hl];exact hr l O9m O9m
 obtain⟨x0,a2⟩:=?oG
 have hlt:k<r:=by
  ext eW
  have:?k2:=by
   rw[hx k hw];ext p1
  omega
 have htk:?hA:=by
  refine qi4 ?g5 (?vP)
  have:?k2:=by
   rw[hx k hw];ext kP;by_cases e:l<k
   . rw[x0 l e];simp
   . ext BJ
  omega
 ext BF;ext BX
 have le1:=ql0 hp d1
 have below:∀i,i<n->i≠k->T' i k=0:=fun i hi hne=>by
  rcases qg0 i k with z | z
  . exact ?hN i k z hw O9m
  . by_cases e3:i<r
    . exact ?DR k k
    . exact hz i k O9m hi hw
 by_cases same:?aU=?aE
 . left;have row:∀c,c<w->?gO=T' k c:=?s9 hin hlt v0 (by rw[htk];exact same.symm) (fun l hl1 hl2=>hr ?r (?d0 l hl2) (?EQ l))
   have cl':Ng n w ?eP T':=by
    refine⟨O9m,O9m,?aL,?vT,?xA⟩
    . ext Y
      . subst e;exact pk
      . exact h1.2.2.1 j O9m
    . ext Y
      . subst e;rw[←row c hcw];exact hr c hcw hne
      . exact ?F1 ?hN
    . ext Y
      . subst e;exact below i hi hne
      . exact h1.2.2.2.2 i j hi O9m hne
   exact(s2.keep cl'.flip).1.flip
 . right;have lt1:?aU<?aE:=O9m
   obtain⟨hc2,q2⟩:=s0.next hcl;obtain⟨g1,_,g3⟩:=?z9;obtain⟨q,u,hqw,i6,OR⟩:=s2.st;obtain⟨kq,hu⟩:=?pN;have A80:=(?mY k hw).sub hqw OR;obtain⟨y,hy⟩:=id A80
   have w0:∀l,l<k->(?DG k) ?jA=0:=fun l hl=>by
    show T' ?jA k=0;rw[hu l hl];exact ?hN l k hl hw O9m
   obtain⟨y0,b2⟩:=i6.lead hy k kq w0;have hyk:?aU=Al (fun l=>y l*?mQ) q:=hy k hn
   have zV:k<q:=by
    ext eW
    have:?aU=0:=by
     rw[hyk];exact ?EL y0
    omega
   have huk:u k=k:=by
    refine ?qN
    have:?aU=0:=by
     rw[hyk];ext kP;by_cases e2:l<k
     . rw[y0 l e2];simp
     . ext BC
    omega
   have e3:T' (u k) k=y k*?zD:=b2 zV;rw[huk]at e3;have p2:0<?zD:=?yV;rw[huk]at p2;have d2:?oL∣ ?aU:=⟨y k,by rw[e3,qf7]⟩
   have le2:=?s5;refine⟨⟨hc2,hn,hw,p2,?u7⟩,qv5 d2 d1,O9m⟩;rcases qg0 c k with z | z
   . exact hc2.2.2.2.2 k c hn z O9m
   . by_cases e4:c<q
     . exact ?DP e4 e4
     . exact OR c k O9m hcw hn
noncomputable def Sf(i:Nat):Int:=if i%2=0 then 1 else -1
theorem Xm(i:Nat):Sf ?m=- Sf i:=by
 unfold Sf;by_cases h:i%2=0
 . rw[?n,?g h]
 . rw[?W,?f h];rfl
theorem Wt(i:Nat):(Sf i).natAbs=1:=by unfold Sf;split<;>rfl
noncomputable def F8(A:Mat)(i:Nat):Mat:=fun r c=>?n3
noncomputable def det:Nat->Mat->Int
 | 0,_=>1
 | n+1,A=>?gK
theorem Cz:∀{n:Nat}{A B:Mat},(∀r c,r<n->c<n->?f5=B r c)->?aV=?DD B
 | 0,_,_,_=>rfl
 | n+1,A,B,h=>by
   ext kO;rw[h i 0 hi ?c,Cz (n:=n) (A:=F8 A i) (B:=F8 B i)];intro r c hr hc;exact ?qC
noncomputable def By(A:Mat)[?pH]:Mat:=fun r c=>if r=p then u c else ?f5
theorem Bn(A:Mat)[?pH](c:Nat):By A p u p c=u c:=?t
theorem Bv{A:Mat}{p r:Nat}{u:?i}(h:?bY)(c:Nat):By A p u r c=?f5:=?f h
theorem S9{A:Mat}{p i:Nat}{u:?i}(h:i≠p):F8 ?fC i=By (F8 A i) ?bX (?FH ?gG):=by
 funext r c
 show(if ?DE i then ?gG else ?n3)=if r=?bX then ?gG else ?n3
 have e:(?DE i)↔(r=?bX):=by
  split<;>split<;>omega
 by_cases z:r=?bX
 . rw[?gE,?g (e.mpr z)]
 . rw[?e8,?f fun w=>z (e.mp w)]
theorem Ix{A:Mat}{p:Nat}{u:?i}:F8 ?fC p=F8 A p:=by
 funext r c
 show(if ?DE p then ?gG else ?lX)=?lX;rw[?f ?bQ]
theorem Fa:∀{n p:Nat} (A:Mat) [?h2] (a b:Int),p<n->?D9 ?nQ=a*?DD ?fC+b*?D9 v
 | n+1,p,A,u,v,a,b,hp=>by
   show ?jQ=a*?jQ+b*?jQ;rw[←Bh,←Bh,←De];ext kO;by_cases e:i=p
   . subst e;rw[Bn,Bn,Bn,Ix,Ix,Ix]
     grind
   . rw[?dK,?dK,?dK,S9 e,S9 e,S9 e];rw[Fa (F8 A i) (?FH ?gG) (fun c=>v ?b5) a b ?bQ]
     grind
theorem Gv(A:Mat)(p:Nat):?vO=A:=by
 funext r c
 unfold By;split
 . rename_i h;rw[h]
 . rfl
theorem Cn{A:Mat}{p q:Nat}(h:?cZ)[?h2]:?wS=By (By A q v) p u:=by
 funext r c
 unfold By;by_cases e:r=q
 . rw[?c3,?n,?c3]
 . rw[?dP,?dP]
theorem cH:∀[?kT],p+1<n->(?E9 ?a9)->?hD
 | n+1,p,A,hp,h=>by
   show ?gK=0
   have same:?lZ=?m0:=Cz fun r c hr hc=>by
    show ?lX=A (if r<p+1 then r else r+1) ?b5;by_cases e:r=p
    . subst e;rw[?n,?W];exact(?k8).symm
    . by_cases e2:r<p
      . rw[?dO,?W]
      . ext p7
   have two:?gK=Al (fun i=>((if i=p then 1 else 0)*(Sf p*A p 0*?lZ))+((if i=p+1 then 1 else 0)*(Sf ?a9*A ?a9 0*?m0))) ?x:=by
    ext kO;by_cases e1:i=p
    . subst e1;rw[?t,?n];simp
    . by_cases e2:i=p+1
      . subst e2;ext p5;simp
      . rw[?P,?c0]
        have z:?qE=0:=by
         refine cH (p:=?zH) ?bQ ?aS;show A (if ?bX<i then ?bX else ?jJ) ?b5=A (if ?jJ<i then ?jJ else ?jJ+1) ?b5;by_cases e3:p<i
         . rw[?lJ,?lJ,?W];exact ?k8
         . rw[?oN,?n,?n,show p-1+1=p by omega];exact ?k8
        rw[z];simp
   rw[two,De,Dk (fun _=>Sf p*A p 0*?lZ) p ?x,?W,Dk (fun _=>Sf ?a9*A ?a9 0*?m0) ?a9 ?x,?W];rw[Xm,←same,←h 0 ?c]
   grind
theorem aS[?kT](hp:p+1<n)[?h2]:?FG (By ?fC ?a9 v) ?a9:=by
 have ne:p≠p+1:=O9m
 have z:?FE ?a9:=fun w=>cH hp ?x0
 have e0:=z fun c=>1*u c+1*v c;rw[?DQ (By A p _) hp,?N,?N,?DQ (By A ?a9 u) ?c,?DQ (By A ?a9 v) ?c]at e0;ext BO
theorem cG:∀(d:Nat) [?kT],p+d+1<n->(?E9 (p+d+1))->?hD
 | 0,n,p,A,hp,h=>cH hp h
 | d+1,n,p,A,hp,h=>by
   have e:A=By (By A (p+d+1) (A (p+d+1))) (p+d+1+1) (A (p+d+1+1)):=?zA
   rw[e,aS ?c];rw[cG d (p:=p) ?c ?aS]
   . rfl
   . rw[?eO,?eO,?eO,Bn];exact ?jB
theorem Ff[?bC]{A:Mat}(hp:p<n)(hq:q<n)(hne:?cZ)(h:?E9 q):?hD:=by
 rcases qg0 p q with z | z
 . exact cG (q-p-1) (p:=p) O9m (by rw[show p+(q-p-1)+1=q by omega];exact h)
 . exact cG (p-q-1) (p:=q) O9m (by rw[show q+(p-q-1)+1=p by omega];exact fun c hc=>(?jB).symm)
theorem tS[?bC](A:Mat)(hp:p<n)(hq:q<n)(hne:?cZ)(k:Int):?D9 ?uG=?aV:=by
 have:=Fa A ?V ?b9 1 k hp;rw[Gv,Ff (A:=?tC) hp hq hne fun c _=>by rw[Bn,Bv (?DN hne)]]at this;rw[←show(fun c=>1*?aH+k*A q c)=?uG from ?FK ?tH,this];omega
theorem ES[?bC]{A:Mat}[?aA][?h2]:?FG (?wS) q:=by
 ext B6
 have e0:=z fun c=>1*u c+1*v c;rw[?DQ (By A p _) hq,?N,?N,?DQ (By A q u) hp,?DQ (By A q v) hp]at e0;ext BO
theorem TR{n p:Nat}(A:Mat)(hp:p<n):?D9 ?tQ=- ?aV:=by
 have:=Fa A ?V ?V ?q 0 hp;rw[Gv]at this;rw[show(?tQ)=fun c=>-1*?aH+0*?aH from ?FK ?lD,this];omega
theorem lT[?bC](A:Mat)[?aA][?bV](h:a*d-b*c=1) :
 ?DD (By (By A p fun k=>a*A p k+b*A q k) q fun k=>c*A p k+d*A q k)=?aV:=by
 ext B6
 have e:?DD (By (?vO) q ?b9)=?aV:=?zA
 have e2:=ES (A:=A) hp hq ne ?V ?b9;rw[Fa _ ?V ?b9 c d hq,?N,?N,?F9 ?V,?F9 ?b9];rw[←?N,←?N,←?N,←?N,z ?V,z ?b9];rw[e]at e2 ⊢;have e3:?DD (By (?tC) q ?V)=- ?aV:=O9m
 rw[e3]
 grind
noncomputable def prodN(f:?i):?i
 | 0=>1
 | n+1=>?iU
theorem Vo(f:?i):∀n,?nN=f 0*?wO
 | 0=>by simp[prodN]
 | n+1=>by
   show ?nN*f ?x=f 0*(?wO*f ?x);rw[Vo f n,qe6]
theorem Tj:∀{n:Nat}{A:Mat},(∀r c,r<n->c<r->?f5=0)->?aV=?k (fun j=>A j j) n
 | 0,_,_=>rfl
 | n+1,A,h=>by
   show ?gK=_;rw[?aW (j:=0) ?c fun k hk hne=>by rw[h k 0 hk ?c];simp,Vo]
   rw[Tj (n:=n) (A:=F8 A 0) fun r c hr hc=>by
    show ?D3 0=0;rw[?n];exact h _ _ ?c ?c]
   show 1*A 0 0*?k (fun j=>A (if j<0 then j else j+1) ?H) n=_;rw[qd1];rfl
noncomputable def cF:?aJ
 | 0=>1
 | n+1=>?A1
theorem Ow[?d4]{M:Nat}:∀{n:Nat},(∀k,k<n->(f k).natAbs<=M)->(?bL).natAbs<=n*M
 | 0,_=>by simp[Al]
 | n+1,h=>by
   have a:=Ow (n:=n) ?i4;have b:=?oP;have c:=qf4 (?bL) (f n);show(?bL+f n).natAbs<=?x*M;rw[qf8,qf6];omega
theorem PF:∀{n:Nat}{A:Mat}{B:Nat},(∀r c,r<n->c<n->?EF ?f5 B)->?EF ?aV ?xQ
 | 0,_,_,_=>by simp[det,cF]
 | n+1,A,B,h=>by
   show(?jQ).natAbs<=?A1*B ^ ?x
   have:(?gK).natAbs<=?x*(B*(?xQ)):=by
    refine Ow ?A9;rw[qb2,qb2,Wt,qf6];exact qf0 (h i 0 hi O9m) (PF fun r c hr hc=>?qC)
   refine qa5 ?aR ?zK;rw[qg7]
   grind
structure Ip(i:Nat)(R:Mat)[?C]:Prop where
 inc:∀j k,j<k->k<i->?lS
 zero:?tL
 pos:?w6
theorem Dj.s0[?gZ][?l][?h1]:Ip r R t:=⟨?b1,?U,?a4⟩
theorem Ip.low[?h3][?l][?h4]{j l:Nat}(hj:j<i)(hl:l<j):?eK=0:=?U j _ hj (?b1 l j hl hj)
theorem Ti:∀[?kT],p<n->(∀c,c<n->?aH=0)->?hD:=fun {n p A} hp h=>by
 have:=Fa A ?V ?V 0 0 hp;rw[show(fun c=>0*?aH+0*?aH)=?yW from ?FK ?lD]at this
 rw[show ?aV=?D9 ?fJ from Cz fun r c hr hc=>by
  unfold By;split
  . rename_i e;rw[e];exact ?jB
  . rfl,this]
 omega
theorem Cj[?d4]:∀{n:Nat},(∀k,k<n->0<f k)->0<?d8
 | 0,_=>?zM
 | n+1,h=>?n2 (Cj ?i4) (?oP)
noncomputable def pb(R:Mat)[?C](k:Nat):?i
 | 0=>1
 | m+1=>?kE
noncomputable def Qz(R:Mat)[?C](k:Nat):Nat->(?i)
 | 0=>R k
 | m+1=>fun c=>?eM*?D4 m c+?j2*R ?cO c
section
variable[?h3][?l][?h4]
include h
theorem NN{k:Nat}:∀{m:Nat},?dS->0<?gD
 | 0,_=>?zM
 | m+1,hm=>?n2 (?a4 _ O9m) (NN O9m)
theorem CO{k l:Nat}(hl:l<k):∀{m:Nat},?dS->?m5=0
 | 0,hm=>?e6 hm hl
 | m+1,hm=>by
   ext B8;rw[CO hl ?c,?wT];simp
theorem EW{k:Nat}:∀{m:Nat},?dS->?qO=?gD*?cW
 | 0,_=>by show ?cW=1*?cW;omega
 | m+1,hm=>by
   show ?eM*?qO+?j2*R ?cO ?z=?kE*?cW;rw[EW ?c,?e6 (j:=?g2) (l:=k) ?c ?c,qe6];simp
theorem cO{k:Nat}:∀{m l:Nat},?dS->k<l->l<=k+m->?m5=0
 | 0,l,_,h1,h2=>O9m
 | m+1,l,hm,h1,h2=>by
   ext B8;by_cases e:l=?g2
   . subst e;rw[qf7,qo3];omega
   . rw[cO ?c h1 ?c,?wT];simp
theorem pP{W:Nat}{k:Nat}:∀{m:Nat},?dS->In W i R (Qz R t k m)
 | 0,hm=>?s hm
 | m+1,hm=>(pP O9m).mix ?uS _ _
theorem jL{k:Nat}(s:?aJ):∀{m:Nat},?dS->det i (By ?c2 k ?rH)=?gD*det i ?c2
 | 0,hm=>by
   show det i (By ?c2 k (?c2 k))=1*_;rw[Gv];omega
 | m+1,hm=>by
   show det i (By ?c2 k fun c=>?eM*?x4+?j2*?yT)=_;rw[Fa ?c2 (?rH) (?uX) _ _ ?c,jL s ?c];rw[Ff (p:=k) (q:=?g2) (A:=By ?c2 k ?uX) ?c ?c ?c fun c _=>by rw[Bn,?eO]];show _=?kE*_;rw[qe6];omega
universe e9
theorem skip_prod[?d4]{k:Nat}:∀(n:Nat),k<=n->?k (fun l=>?CM f) n=?cN*?y9
 | 0,h=>by
   have:k=0:=O9m
   subst this;simp[prodN]
 | n+1,h=>by
   by_cases e:k=n+1
   . subst e;rw[show n+1-?x=0 by omega];show ?k _ ?x=?nN*1
     have:∀m,m<=n+1->?k (fun l=>f (if l<n+1 then l else l+1)) m=?k f m:=by
      intro m
      induction m with
      | zero=>intro _;rfl
      | succ m ih =>
        intro hm;show ?oH*f (if m<n+1 then m else m+1)=?k f m*f m;rw[ih ?c,?W]
     rw[?aR _ ?j];omega
   . show ?k _ n*f (if n<k then n else n+1)=_;rw[?sJ n ?c,?n,show n+1-k=?dC+1 by omega];show _=?cN*(?y9*f (k+1+?dC));rw[show k+1+?dC=n+1 by omega,qe6]
theorem BN(R:Mat)[?C](k:Nat):∀m,?gD=?k (fun l=>R (k+1+l) (t (k+1+l))) m
 | 0=>rfl
 | m+1=>by
   show ?kE=?oH*?eM;rw[BN R t k m,qf7]
noncomputable def aD[?C](k c:Nat):?aJ
 | 0=>c
 | l+1=>?CM t
theorem ZE[?h3][?l][?h4]{k c:Nat}(hk:k<i){D:Nat}(hD:?EE ?hX):(?D4 ?lP c).natAbs<=D:=by
 have hm:k+?lP<i:=O9m
 have e1:=jL h (k:=k) (aD t k c) hm
 have hu0:∀l,l<i->l≠k->?D4 ?lP ?r=0:=fun l hl hne=>by
  rcases qg0 l k with z | z
  . exact CO h z hm
  . exact cO h hm O9m O9m
 obtain⟨n,rfl⟩:∃n,i=n+1:=?sI
 have e2:det ?x (By (?hX) k fun l=>?D4 (n+1-1-k) (aD t k c l))=Sf k*?D4 (n+1-1-k) c*?k (fun l=>R (if l<k then l else l+1) (?CM t)) n:=by
  show Al (fun j=>Sf j*By _ k _ j 0*?DD (F8 (By _ k _) j)) ?x=_;rw[?aW (j:=k) hk ?q4]
  . rw[Bn,Ix]
    congr 1
    refine Tj fun r l hr hl=>?_;show R (if r<k then r else r+1) (?CM t)=0;refine ?e6 ?bQ ?_;split<;>split<;>omega
  . rw[S9 hne,Ti (p:=if k<j then k else k-1) ?bQ ?sQ]
    . simp
    . rw[Bn];show Qz R t k (n+1-1-k) (?CM t)=0;exact hu0 _ ?bQ ?bQ
 rw[e1]at e2;rw[?sJ (f:=?iI) n ?c,←BN,?zY]at e2;rw[?zY];have pp:=NN h (k:=k) (m:=n-k) O9m;have qp:0<?r7:=Cj fun j hj=>?f1;have e3:=?t7 ?uC e2;rw[qb2,qb2,qb2,qb2,Wt,qf6]at e3;have p1:0<?cS:=O9m
 have q1:1<=?r5:=O9m
 have:?cS*?o5<=?cS*D:=by
  calc ?cS*?o5<=?o5*(?r5*?cS):=by
        rw[Nat.mul_comm ?cS];exact qe2 _ (qm5 _ q1)
   _=?cS*(det ?x ?hX).natAbs:=e3.symm
   _<=_:=qe2 _ hD
 exact qr4 ?aR p1
theorem AN[?h3][?l][?h4]:det i ?gI=?fZ:=Tj fun r c hr hc=>?e6 hr hc
theorem Xw[?d4]:∀{n j:Nat},(∀k,k<n->0<f k)->j<n->f j<=?d8
 | n+1,j,h,hj=>by
   have p:=Cj (n:=n) ?i4;have q:=?oP;show f j<=?iU;by_cases e:j=n
   . subst e;have:1*f j<=?k f j*f j:=?hB;omega
   . have ih:=Xw (n:=n) (j:=j) (?i4) O9m;have:?d8*1<=?iU:=qm4 O9m O9m;omega
theorem tL[?h3][?l][?h4]{D:Nat}(hD:?EE ?n6){j:Nat}(hj:j<i):?S<=D:=by
 rw[AN h]at hD;have a:=Xw (f:=?iI) (?EX ?a4 hk) hj;have b:=Cj (f:=?iI) (n:=i) (?EX ?a4 hk);omega
theorem Ip.none{W i:Nat}{R:Mat}[?l][?BT](h0:∀j,j<i->?c4=0):∀c,c<W->v c=0:=by
 obtain⟨x,hx⟩:=hv
 have x0:∀m,m<=i->∀j,j<m->x j=0:=by
  intro m
  induction m with
  | zero=>intro _ j hj;omega
  | succ m ih =>
    intro hm j hj;by_cases e:j<m
    . exact ih O9m j e
    have ej:j=m:=O9m
    subst ej;have e1:=hx ?K (?vH);rw[h0 j ?c,?aW (j:=j) ?c ?mA]at e1
    . rcases ?mC e1.symm with z | z
      . exact z
      . have:=?f1;omega
    . by_cases e2:k<j
      . rw[ih ?c k e2];simp
      . rw[?e6 hk ?c];simp
 intro c hc;rw[?e0];exact Bj fun k hk=>by rw[x0 i ?j k hk];simp
theorem In.sum{W i:Nat}{R:Mat}{a:?i}{U:Mat}:∀{m:Nat},(∀j,j<m->In W i R (U j))->In W i R (?FH ?lA)
 | 0,_=>?hG W i R
 | m+1,h=>by
   have:=(?mW (a:=a) (U:=U) (m:=m) (?EY h j)).mix (h m O9m) 1 (a m)
   exact this.congr fun c _=>by
    show 1*?lA+?sP=?lA+?sP;omega
theorem Rq(f:?i):∀(n k:Nat),k<n->?d8=?cN*(?nJ*f k)
 | n+1,k,h=>by
   by_cases e:k=n
   . subst e;rw[show k+1-1-k=0 by omega];show ?cN*f k=?cN*(1*f k);rw[qd1]
   . show ?iU=_;rw[Rq f n k ?c,show n+1-1-k=?gS+1 by omega];show _=?cN*(?k _ ?gS*f (k+1+?gS)*f k);rw[show k+1+?gS=n by omega]
     grind
theorem Ai8[?d4]:∀{n k:Nat},(∀l,l<n->0<f l)->k<n->?cN*f k<=?d8:=fun {n k} h hk=>by
 rw[Rq f n k hk];have a:=Cj (n:=k) fun l hl=>h l O9m;have b:0<?nJ:=Cj fun l hl=>?k8;have c:=h k hk;have d:1*f k<=?nJ*f k:=?hB;rw[qd1]at d;exact qm4 d O9m
theorem qX{W i:Nat}{R:Mat}[?l][?BT]{κ D c:Nat}(hc:c<W)(hκ:∀j,j<i->?wK<=κ*?jK)
 (hD:∀k,k<i->?EE ?hX):(v c).natAbs<=i*?lG:=by
 have hp:∀l,l<i->0<?fA l:=fun l hl=>?a4 l hl;have EP:=Cj (n:=i) hp
 have key:?fZ*v c=?oJ:=by
  have hin:In W i R (?FH ?pU) :=
   hv.mix (?mW (a:=fun j=>?c4*?fI) (U:=fun j=>Qz R t j ?n5) (?EY pP h)) _ _
  have:=h.none ht hin (fun m hm=>?_) c hc
  . show _=_;have t:?pU=0:=this;omega
  . show ?fZ*v (t m)+?q*Al (fun j=>(?c4*?fI)*?AO) i=0;rw[?aW (j:=m) hm ?q4]
    . rw[EW h ?c,BN,Rq ?fA i m hm]
      grind
    . have:?AO=0:=by
       rcases qg0 m j with z | z
       . exact CO h z O9m
       . exact cO h O9m O9m O9m
      rw[this];simp
 have e:=?t7 ?uC key;rw[qb2]at e
 have le:(?oJ).natAbs<=i*(?nY*?lG):=by
  refine Ow ?aL;rw[qb2,qb2];have a1:=hκ j hj;have a2:=ZE h hj (hD j hj);have a3:=Ai8 hp hj;have a4:=Cj (n:=j) fun l hl=>hp l O9m;have a5:=hp j hj
  have a6:?h7*?jK<=?nY:=by
   rw[←qb2];have:0<?fI*?S:=?n2 a4 a5;omega
  calc ?wK*?h7*(?s2).natAbs
   ≤ κ*?jK*?h7*D:=qf0 (qb5 _ a1) a2
   _=?h7*?jK*?lG:=?dW
   _<=_:=qb5 _ a6
 rw[←e]at le;have E1:0<?nY:=O9m
 refine qr4 (qa5 le ?zK) E1
 grind
theorem In.trans{W n m:Nat}{R R':Mat}{v:?i}(hv:In W n R v)(h:∀j,j<n->In W m R' ?dE):In W m R' v:=by
 obtain⟨x,hx⟩:=hv;exact(?mW (a:=x) (U:=R) h).congr fun c hc=>(?e0).symm
noncomputable def MO(W n:Nat)(R R':Mat):Prop:=(∀j,j<n->In W n R (R' j))/\(∀j,j<n->In W n R' ?dE)
theorem MO.refl(W n:Nat)(R:Mat):?E1 R:=⟨?rS,?rS⟩
theorem MO.trans{W n:Nat}{R S T:Mat}(h1:?E1 S)(h2:MO W n S T):?E1 T:=⟨fun j hj=>(h2.1 j hj).trans h1.1,fun j hj=>(h1.2 j hj).trans h2.2⟩
noncomputable def Fg(n:Nat)(R R':Mat):Prop:=∀s:?aJ,(det n fun r l=>R' r ?cL).natAbs=(?DD ?wM).natAbs
theorem Fg.refl(n:Nat)(R:Mat):Fg n R R:=fun _=>rfl
theorem Fg.trans{n:Nat}{R S T:Mat}(h1:Fg n R S)(h2:Fg n S T):Fg n R T:=fun s=>(h2 s).trans (h1 s)
theorem Mu(R:Mat)[?pH](s:?aJ):(fun r l=>By R p u r ?cL)=By ?jL p (fun l=>u ?cL):=by
 funext r l
 unfold By;split<;>rfl
noncomputable def addR[?d3](k:Int):Mat:=By R p ?vY
theorem Cp[?d3](k:Int)(c:Nat):?y R p q k p c=?AG:=Bn ..
theorem Dd[?kR]{k:Int}(h:?bY)(c:Nat):?y R p q k r c=?aT:=Bv h c
theorem uB[?bC](R:Mat)[?aA](k:Int):Fg n R ?eG:=fun s=>by
 unfold addR;rw[Mu];have:=tS ?jL hp hq ne k;rw[show(fun l=>1*R p ?cL+?yN)=fun l=>R p ?cL+?yN from ?aG fun l=>?tH,this]
theorem UA{W n p q:Nat}(R:Mat)[?aA](k:Int):?E1 ?eG:=by
 ext kK
 . ext f0
   . subst e;exact(?n7 ?zW 1 k).congr fun c _=>(Cp R j q k c).symm
   . exact ?fX fun c _=>(?mB).symm
 . ext f0
   . subst e;refine((?DO ?sS).mix (?s (R:=?sS) hq) 1 (-k)).congr fun c _=>?_;rw[Cp,Dd ?fL];show 1*(1*?bI+k*R q c)+-k*R q c=?bI;rw[qo3];omega
   . exact(?DO ?sB).congr fun c _=>?mB
noncomputable def Gj(R:Mat)(p:Nat):Mat:=By R p fun c=>- ?aX
theorem SN{n p:Nat}(R:Mat)(hp:p<n):Fg n R ?e3:=fun s=>by
 unfold Gj;rw[Mu,TR ?jL hp,qc7]
theorem SM{W n p:Nat}(R:Mat)(hp:p<n):?E1 ?e3:=by
 ext kK
 . ext f0
   . subst e;exact(?n7 (?g3) ?q 0).congr ?s7
   . exact ?fX fun c _=>(Bv e c).symm
 . ext f0
   . subst e;exact((?vL).mix (?vL) ?q 0).congr ?s7
   . exact(?s (R:=Gj R p) hj).congr fun c _=>Bv e c
noncomputable def blendR[?d3][?bV]:Mat:=By (By R p ?zF) q ?xP
theorem Gi{R:Mat}{p q:Nat}(ne:?cZ)[?bV](k:Nat):?E3 p=?AQ:=by unfold blendR;rw[Bv ne,Bn]
theorem Ja[?d3][?bV](k:Nat):?E3 q=?qB:=by unfold blendR;rw[Bn]
theorem Ec[?kR](h1:?bY)(h2:r≠q)[?bV](k:Nat):?E3 r=R r k:=by unfold blendR;rw[Bv h2,Bv h1]
theorem mG[?bC](R:Mat)[?aA][?kN]:Fg n R ?f9:=fun s=>by
 unfold blendR;rw[Mu,Mu];rw[lT ?jL hp hq ne a b c d h]
theorem MF{W n p q:Nat}(R:Mat)[?aA][?kN]:?E1 ?f9:=by
 ext kK
 . ext f0
   . subst e;exact(?n7 ?zW a b).congr fun k _=>(?xU).symm
   . by_cases e2:j=q
     . subst e2;exact((?s hp).mix (?g3) c d).congr fun k _=>(Ja R p j a b c d k).symm
     . exact ?fX fun k _=>(?rX).symm
 . ext f0
   . subst e;refine((?DO ?yS).mix (?s (R:=?yS) hq) d (-b)).congr ?jI;ext BS
     grind
   . by_cases e2:j=q
     . subst e2;refine((?s (R:=?rZ) hp).mix (?DO ?rZ) (-c) a).congr ?jI;ext BS
       grind
     . exact(?DO ?tI).congr fun k _=>?rX
noncomputable def moveR(R:Mat)(i s:Nat):Mat:=fun r c=>if r<s then ?aT else if r=s then ?dZ else if ?aQ then R ?e5 c else ?aT
theorem EF{n:Nat}:∀(d:Nat) (R:Mat) {i s:Nat},i<n->i=s+d->Fg n R ?d5
 | 0,R,i,s,hi,e=>by
   have:?gA=R:=by
    funext r c
    ext aP;by_cases e1:r<s
    . rw[?e9]
    . rw[?P];by_cases e2:r=s
      . rw[?dO,e2,?uQ]
      . ext p7
   rw[this];exact Fg.refl n R
 | d+1,R,i,s,hi,e=>by
   obtain⟨j,rfl⟩:∃j,i=j+1:=?sI
   have h1:Fg n R (?DJ R):=fun t=>by
    rw[Mu,Mu,aS ?c,qc7]
    rw[show By (By ?gI j ?wN) ?H (fun l=>R ?H ?r)=?n6 from by
     have:=Gv ?gI j;rw[show(?wN)=?gI j from rfl,this];exact Gv ?gI ?H]
   have h2:=EF (n:=n) d (?DJ R) (i:=j) (s:=s) O9m O9m
   have e3:?B (?DJ R) j s=?B R ?H s:=by
    funext r c
    ext aP;by_cases e1:r<s
    . rw[?e9,?e9,?eO,?eO]
    . rw[?P,?P];by_cases e2:r=s
      . rw[?dO,?dO,Bv (show j≠j+1 by omega),Bn]
      . rw[?c0,?c0];by_cases e4:r<=j
        . rw[?g e4,?g (show r<=j+1 by omega),Bv (show r-1≠j+1 by omega),Bv (show r-1≠j by omega)]
        . rw[?oF];by_cases e5:r=j+1
          . subst e5;rw[Bn,?W];rfl
          . rw[?f (show ¬r<=j+1 by omega),Bv e5,Bv (?CR r j)]
   rw[e3]at h2;exact ?AV h2
theorem OD{W n:Nat}(R:Mat){i s:Nat}[?kS]:?E1 ?d5:=by
 ext kK
 . by_cases e1:j<s
   . exact ?fX ?uK
   . by_cases e2:j=s
     . exact(?s hi).congr fun c _=>by ext aP;rw[?P,?dO]
     . by_cases e3:?c7
       . exact(?s (R:=R) (j:=j-1) O9m).congr (?F6 ?lJ)
       . exact ?fX (?F6 ?oN)
 . by_cases e1:j<s
   . exact ?wV ?uK
   . by_cases e2:j=i
     . exact(?s (R:=?gA) (j:=s) O9m).congr fun c _=>by ext aP;rw[?n,?t,e2]
     . by_cases e3:j<i
       . exact(?s (R:=?gA) (j:=j+1) O9m).congr fun c _=>by ext aP;rw[?n,?n,?W];rfl
       . exact ?wV fun c _=>by ext aP;ext p0
theorem P6{f g:?i}[?bC][?aA](h:∀k,k<n->k≠p->k≠q->f k=g k)(e:f p+f q=g p+g q):?bL=Al g n:=by
 have z:?rA=(f p-g p)+(f q-g q):=by
  have e1:?rA=Al (fun k=>(if k=p then 1 else 0)*(f p-g p)+(if k=q then 1 else 0)*(f q-g q)) n:=by
   refine Ao ?gT;by_cases e1:k=p
   . subst e1;rw[?t,?l7];omega
   . rw[?P];by_cases e2:k=q
     . subst e2;rw[?t];omega
     . rw[?c0,h k hk e1 e2];omega
  rw[e1,De,Dk (fun _=>f p-g p) p n,?g hp,Dk (fun _=>f q-g q) q n,?g hq]
 rw[De,Bh]at z;omega
noncomputable def pT(n:Nat)(B R:Mat)(a b:Nat):Int:=?uF
theorem gD[?bC](B R:Mat)[?aA](k:Int)(a b:Nat):?EO (?y B q p (-k)) ?eG:=by
 refine P6 hp hq ne (fun j _ h1 h2=>by rw[Dd h2,Dd h1]) ?_;rw[Dd (r:=p) (p:=q) ne,Cp R p q k,Cp B q p (-k),Dd ?fL]
 grind
theorem xC{n p:Nat}(B R:Mat)(a b:Nat):?EO (Gj B p) ?e3:=by
 refine Ao ?jI;by_cases e:k=p
 . subst e;unfold Gj;rw[Bn,Bn,Int.neg_mul_neg]
 . unfold Gj;rw[?dK,?dK]
theorem dU[?bC](B R:Mat)[?aA][?kN](x y:Nat):pT n (?FC a) ?f9 x y=pT n B R x y:=by
 refine P6 hp hq ne (fun j _ h1 h2=>by rw[?u8,?u8]) ?_;rw[?bG,?bG,Ja,Ja];have e1:?u9=(a*d-b*c)*(?u9):=?n1
 have e2:?pM=(a*d-b*c)*(?pM):=?n1
 grind
theorem y8(f:?i):∀(d:Nat) {n i s:Nat},i<n->i=s+d->Al (fun r=>if r<s then f r else if r=s then f i else if ?aQ then f ?e5 else f r) n=?bL
 | 0,n,i,s,hi,e=>Ao fun r _=>by
   by_cases e1:r<s
   . rw[?e9]
   . rw[?P];by_cases e2:r=s
     . rw[?dO,e2,?uQ]
     . ext p7
 | d+1,n,i,s,hi,e=>by
   rw[←y8 f d (n:=n) (i:=i) (s:=s+1) hi ?c];refine P6 (p:=s) (q:=s+1) O9m O9m O9m (fun r _ h1 h2=>?_) ?_
   . by_cases e1:r<s
     . rw[?e9,?W]
     . rw[?P,?f h1,?f (show ¬r<s+1 by omega),?f h2]
   . rw[?n,?t,?n,?n,?W,?W,?n,?t];show f i+f (s+1-1)=f s+f i;rw[show s+1-1=s by omega];omega
theorem RY{n:Nat}(B R:Mat){i s:Nat}[?kS](a b:Nat):?EO (?B B i s) ?d5:=by
 show Al (fun k=>?B B i s k a*?B R i s k b) n=?uF;rw[←y8 (fun k=>B k a*R k b) (i-s) (n:=n) (i:=i) (s:=s) hi ?c];refine Ao fun r _=>?_;ext aP;split
 . rfl
 . split
   . rfl
   . split<;>rfl
noncomputable def pD[?bD][?a0](i j:Nat):Int:=Al (fun c=>?lI*B j c) n
noncomputable def Fr[?bD][?a0]:Prop:=∀i j,i<n->j<n->?pP=?kY
noncomputable def dot[?bD][?h2]:Int:=Al (fun c=>u (w+c)*v c) n
theorem Eb[?bD](u v x:?i)(a b:Int):?F7 (?nQ) x=a*?F7 u x+b*?F7 v x:=by
 unfold dot;rw[←Bh,←Bh,←De];exact Ao fun c _=>by rw[Int.add_mul,qe6,qe6]
theorem Ga[?bD](u x y:?i)(a b:Int):?F7 u (fun c=>a*x c+b*y c)=a*?F7 u x+b*?F7 u y:=by
 unfold dot;rw[←Bh,←Bh,←De];exact Ao fun c _=>?dW
theorem X4[?bD][?a0](i j:Nat):?pP=?z8:=rfl
theorem Nb[?d3](k:Int):?y R p q k p=?vY:=?aG fun c=>Cp ..
theorem addR_row_ne[?kR]{k:Int}(h:?bY):?y R p q k r=R r:=?aG fun c=>Dd h c
theorem blend_row_p{R:Mat}{p q:Nat}(ne:?cZ)[?bV]:?EG ?u p=?zF:=?aG fun k=>?xU
theorem blend_row_q[?d3][?bV]:?EG ?u q=?xP:=?aG fun k=>?EG Ja k
theorem blend_row_ne[?kR](h1:?bY)(h2:r≠q)[?bV]:?EG ?u r=R r:=?aG fun k=>Ec h1 h2 a b c d k
theorem Fr.add{n w p q:Nat}[?gW][?aA](k:Int):Fr n w ?eG (?y B q p (-k)):=fun i j hi hj=>by
 ext oX
 rw[X4];by_cases e1:i=p
 . subst e1;rw[Nb];by_cases e2:j=q
   . subst e2;rw[Nb,Ga,Eb,Eb,?X,?pY,?lL,?AN];rw[?l7,?t,?t,?f ?fL];omega
   . rw[?mP e2,Eb,?X,?y6,show ?CK q j from ?iA];omega
 . rw[?mP e1];by_cases e2:j=q
   . subst e2;rw[Nb,Ga,?X,?vB,?xO];omega
   . rw[?mP e2];exact ?X
theorem Fr.neg{n w p:Nat}[?gW](hp:p<n):Fr n w ?e3 (Gj B p):=fun i j hi hj=>by
 ext oX
 have s1:∀(R:Mat),Gj R p p=fun c=>-1*?aX+0*?aX:=fun R=>?FK ?zE
 have s2:∀(R:Mat) {r:Nat},?bY->Gj R p r=R r:=fun R r hr=>?aG fun c=>Bv hr c;rw[X4];by_cases e1:i=p
 . subst e1;by_cases e2:j=i
   . subst e2;rw[s1,s1,Ga,Eb,?mZ];rw[?t];omega
   . rw[s1,s2 B e2,Eb,?X,?iA];omega
 . by_cases e2:j=p
   . subst e2;rw[s1,s2 R e1,Ga,?X,?P];omega
   . rw[s2 R e1,s2 B e2];exact ?X
theorem Fr.blend{n w p q:Nat}[?gW][?aA]{a b c d:Int}(h1:a*d-b*c=1):Fr n w ?f9 (?FC a):=fun i j hi hj=>by
 ext oX
 have ne':q≠p:=?vK;rw[X4];by_cases e1:i=p
 . subst e1;rw[?iF];by_cases e2:j=i
   . subst e2;rw[?iF,Ga,Eb,Eb,?mZ,D q j hq hi,D j q hi hq,D q q hq hq]
     ext kI
     grind
   . by_cases e3:j=q
     . subst e3;rw[blend_row_q,Ga,Eb,Eb,?lL,D j i hq hi,D i j hi hq,D j j hq hq]
       ext kI
       grind
     . rw[?m7,Eb,?X,?y6,show ?hM from ?iA,show ?CK q j from ?f (?DN e3)];omega
 . by_cases e4:i=q
   . subst e4;rw[blend_row_q];by_cases e2:j=p
     . subst e2;rw[?iF,Ga,Eb,Eb,?pY,?X,?AN,?lL]
       ext kI
       grind
     . by_cases e3:j=i
       . subst e3;rw[blend_row_q,Ga,Eb,Eb,D p p hp hp,D j p hi hp,D p j hp hi,?mZ]
         ext kI
         grind
       . rw[?m7,Eb,D p j hp hj,?X,show ?CK p j from ?iA,show ?hM from ?f (?DN e3)];omega
   . rw[?u4 e1 e4];by_cases e2:j=p
     . subst e2;rw[?iF,Ga,?X,D i q hi hq,show ?hM from ?P,show ?CK i q from ?oF];omega
     . by_cases e3:j=q
       . subst e3;rw[blend_row_q,Ga,?vB,?X,?xO,show ?hM from ?oF];omega
       . rw[?m7];exact ?X
noncomputable def mvI(i s r:Nat):Nat:=if r<s then r else if r=s then i else if ?aQ then r-1 else r
theorem move_row(R:Mat)(i s r:Nat):?B R i s r=R (?q8):=by
 funext c
 unfold moveR mvI;split
 . rfl
 . split
   . rfl
   . split<;>rfl
theorem Fr.move{n w i s:Nat}[?gW][?kS]:Fr n w ?d5 (?B B i s):=fun x y hx hy=>by
 rw[X4,move_row,move_row];have l:∀r,r<n->?q8<n:=fun r hr=>?uT
 have:=h _ _ (l x hx) (l y hy);rw[X4]at this;rw[this]
 have inj:(mvI i s x=mvI i s y)↔x=y:=by
  constructor
  . intro e;unfold mvI at e;by_cases a1:x<s<;>by_cases a2:x=s<;>by_cases a3:x<=i<;>by_cases b1:y<s<;>by_cases b2:y=s<;>by_cases b3:y<=i<;>simp only[a1,a2,a3,b1,b2,b3,if_true,if_false]at e<;>first | omega | (subst_vars;simp_all;try omega)
  . intro e;rw[e]
 by_cases e:x=y
 . rw[?c3,?g (inj.mpr e)]
 . rw[?dP,?f fun z=>e (inj.mp z)]
structure Good(n W w lo:Nat)(R B R' B':Mat):Prop where
 eqv:∀m,lo<=m->MO W m R R'
 det:∀m,lo<=m->Fg m R R'
 pt:∀a b,?EO B' R'
 dual:?w0->Fr n w R' B'
 rest:∀r c,lo<=r->?xY
 restB:∀r c,lo<=r->B' r c=B r c
theorem Good.refl(n W w lo:Nat)[?a0]:?CS R B:=⟨fun m _=>MO.refl W m R,fun m _=>Fg.refl m R,?kC,id,?hP,?hP⟩
theorem Good.trans{n W w lo:Nat}{R B R' B' S C:Mat}(h1:?mH)(h2:?T n W w lo R' B' S C):?CS S C :=
 ⟨?EW h1.eqv h2.eqv,?EW h1.det h2.det,fun a b=>(h2.pt a b).trans (h1.pt a b),fun d=>h2.dual (h1.dual d),?E0 h2.rest h1.rest,?E0 h2.restB h1.restB⟩
theorem Good.mono{n W w lo lo':Nat}[?kU](h:?mH)(hl:lo<=lo'):?T n W w lo' R B R' B':=⟨?EB h.eqv m,?EB h.det m,h.pt,h.dual,fun r c hr=>h.rest r c O9m,fun r c hr=>h.restB r c O9m⟩
theorem Good.add[?BP](k:Int):?CS ?eG (?y B q p (-k)) :=
 ⟨?CY UA k,?CY uB k,fun a b=>gD B R O9m O9m ne k a b,fun d=>d.add O9m O9m ne k,?q5,?q5⟩
theorem Good.neg{n W w lo p:Nat}[?a0](hp:p<lo)(hn:?jW):?CS ?e3 (Gj B p) :=
 ⟨?EB SM R,?EB SN R,fun a b=>xC B R a b,fun d=>d.neg O9m,?A7,?A7⟩
theorem Good.blend[?BP][?kN]:?CS ?f9 (?FC a) :=
 ⟨?CY MF h,?CY mG h,fun x y=>dU B R O9m O9m ne h x y,fun e=>e.blend O9m O9m ne h,?sO,?sO⟩
theorem Good.move{n W w lo i s:Nat}[?a0](hi:i<lo)(hs:s<=i)(hn:?jW):?CS ?d5 (?B B i s) :=
 ⟨fun m hm=>OD R O9m hs,fun m hm=>EF (i-s) R O9m O9m,fun a b=>RY B R O9m hs a b,fun d=>d.move O9m hs,fun r c hr=>by
  ext gV;ext p0,fun r c hr=>by
  ext gV;ext p0⟩
theorem Fr.row{n w i:Nat}[?gW](hi:i<n):∃c,c<n/\?lI≠0:=by
 refine qg5 ?mJ;have e:=h i i hi hi;rw[?t]at e;unfold pD at e;rw[Bj ?aS]at e
 . cases e
 . have:?lI=0:=qg5 fun y=>z ⟨c,hc,y⟩;rw[this];simp
theorem JH{x h:Int}{K:Nat}(hh:0<h)(hx:x.natAbs<=K*h.natAbs):(x / h).natAbs<=K:=by
 have e:(h.natAbs:Int)=h:=O9m
 have hx':(x.natAbs:Int)<=?jS*h:=by rw[←e];exact_mod_cast hx
 have u1:x / h<=?jS:=by
  have:x<=?jS*h:=O9m
  exact Int.ediv_le_of_le_mul hh ?aR
 have u2:-?jS<=x / h:=by
  refine(Int.le_ediv_iff_mul_le hh).mpr ?_;rw[qo3];omega
 omega
structure Part(R:Mat)[?C](f m:Nat):Prop where
 inc:∀j k,f<=j->j<k->k<m->?lS
 zero:∀j c,f<=j->j<m->?mE
 pos:∀j,f<=j->j<m->0<?S
 red:∀k j,f<=k->k<j->j<m->?r6
structure MN(n W w lo:Nat)[?a0][?C](p f m j μ:Nat)(R' B':Mat):Prop where
 good:?mH
 same:?qA
 left:∀c,(∀l,f<=l->l<m->c<t l)->?gM=?aX
 red:∀l,f<=l->l<j->?tD
 rel:∀l,j<=l->l<m->?EF ?c8 ?iT
 ins:∀W',∃v:?i,In W' lo R v/\∀c,?gM=?aX+v c
theorem MN.start{n W w lo:Nat}{R B:Mat}[?l]{p f m μ:Nat}(h:∀l,f<=l->l<m->?A8):MN n W w lo R B t p f m f μ R B :=
 ⟨?hL,?hP,?kC,fun l h1 h2=>O9m,fun l h1 h2=>by rw[qh5,qw3,qf6];exact h l h1 h2,fun W'=>⟨?fJ,?hG W' lo R,fun c=>by show ?aX=?aX+0;omega⟩⟩
theorem aZ[?d3]:?y R p q 0=R:=by
 funext r c
 by_cases e:r=p
 . subst e;rw[Cp];omega
 . exact ?mB
theorem MN.step{n W w lo:Nat}[?kU][?l]{p f m j μ:Nat}(h:MN n W w lo R B t p f m j μ R' B')(P:?lH)(hf:f<=j)(hj:j<m)(hp:p<lo)(hm:m<=lo)(hn:?jW)(hpf:p<f\/m<=p) :
 ?AZ<=2 ^ (j-f)*μ/\MN n W w lo R B t p f m ?H μ (?y R' p j (-(?cE))) (?y B' j p (?cE)):=by
 have hh:=P.pos j hf hj;have ne:p≠j:=O9m
 have q1:=JH hh (h.rel j ?j hj);refine⟨q1,?_⟩;generalize hq:?cE=q at q1;have rj:∀c,?pJ:=fun c=>h.same j c ?fL;refine⟨?j0 ?_,?AB,?aS,?eA,?eA,fun W'=>?_⟩
 . have:=?xC (n:=n) (W:=W) (w:=w) (lo:=lo) R' B' hp (show j<lo by omega) hn ne ?bZ;rw[qo2]at this;exact this
 . rw[Dd hr];exact h.same r c hr
 . rw[Cp,h.left c hc,rj,P.zero j c hf hj (hc j hf hj)];simp
 . rw[Cp,rj];by_cases e:l=j
   . subst e;have d1:=ql8 (?c8) (?CR ?c6 0);have d2:=qk0 (?c8) hh;have d3:=Int.mul_ediv_add_emod (?c8) (?c6);rw[hq]at d3;have d4:?c6*q=q*?c6:=qf7 ..;rw[qo3];omega
   . have z:?eK=0:=P.zero j _ hf hj (P.inc l j h1 O9m hj);rw[z,qf3,qw6,qd1];exact ?dD l h1 O9m
 . rw[Cp,rj];have a:=?E7 h.rel;obtain⟨b1,b2⟩:=P.red j l hf O9m h2;have b:?EF ?eK ?bM:=O9m
   have c:=qf4 (1*?c8) (-q*?eK);rw[qd1]at c;rw[qd1]
   have d:(-q*?eK).natAbs<=?iT:=by
    rw[qb2,qc7];exact qf0 q1 b
   rw[show j+1-f=(j-f)+1 by omega,qg7];have e:2 ^ (j-f)*2*μ*?bM=?iT+?iT:=?dW
   omega
 . obtain⟨v,hv,hc⟩:=h.ins W';refine⟨fun c=>1*v c+?bZ*?bI,hv.mix ?uS 1 ?bZ,?FH ?_⟩;rw[Cp,hc c,rj]
   grind
noncomputable def Bits(n W b:Nat)(R:Mat):Prop:=∀r c,r<n->c<W->?hJ<?A
theorem FA{x y a k:Int}{b c:Nat}(hx:x.natAbs<?A)(hy:y.natAbs<?A)(ha:a.natAbs<2 ^ c)(hk:?v6):(a*x+k*y).natAbs<2 ^ (b+c+1):=by
 have e:=qf4 (a*x) (k*y);rw[qb2,qb2]at e;have u:a.natAbs*x.natAbs<?jG:=?DU ha hx
 have v:k.natAbs*y.natAbs<?jG:=?DU hk hy
 rw[?tV,qg7];omega
theorem Bits.mono{n W b b':Nat}[?gX](hb:b<=b'):?eL n W b' R:=fun r c hr hc=>qb4 ?k1 (qe7 ?D hb)
theorem Bits.add{n W b c p q:Nat}[?gX](hp:p<n)(hq:q<n){k:Int}(hk:?v6):?eL n W (b+c+1) ?eG:=fun r x hr hx=>by
 by_cases e:r=p
 . subst e;rw[Cp]
   have h1:(1:Int).natAbs<2 ^ ?b5:=by
    have:1<=2 ^ c:=qk7;rw[qg7];show 1<_;omega
   have e1:=qf4 (1*R r x) (k*R q x);rw[qd1,qb2]at e1;rw[qd1];have u:k.natAbs*(R q x).natAbs<?jG:=?DU hk (h q x hq hx)
   have v:(R r x).natAbs<?jG:=?xZ;rw[?tV,qg7];omega
 . rw[Dd e];exact ?xZ
theorem Bits.blend{n W b e p q:Nat}[?gX][?aA]{x y z u:Int}(hx:x.natAbs<?iZ)(hy:y.natAbs<?iZ)(hz:z.natAbs<?iZ)(hu:u.natAbs<?iZ):?eL n W (b+e+1) (?u R p q x y z u):=fun r c hr hc=>by
 by_cases e1:r=p
 . subst e1;rw[?bG];exact FA ?k1 (h q c hq hc) hx hy
 . by_cases e2:r=q
   . subst e2;rw[Ja];exact FA (h p c hp hc) ?k1 hz hu
   . rw[Ec e1 e2];exact qb4 ?k1 (?hE)
theorem Bits.neg{n W b p:Nat}[?gX]:?eL n W b ?e3:=fun r c hr hc=>by
 unfold Gj;by_cases e:r=p
 . subst e;rw[Bn,qc7];exact ?mM
 . rw[?dK];exact ?mM
theorem Bits.move{n W b i s:Nat}[?gX][?kS]:?eL n W b ?d5:=fun r c hr hc=>by
 rw[move_row];exact h _ c (?uT) hc
structure Dt[?eT](R0 B0:Mat)[?C](π b:Nat)(spot:Nat)[?a0]:Prop where
 good:?o3
 zero:?tL
 pos:?w6
 old:∀j c,spot<=j->j<i->?bI=R0 j c
 pass:∀j c,?fY->c<=t j->?fD
 pv:∀l,spot<=l->l<i->(R i ?r).natAbs<=?a2
 gc:?F4 (?hT)
structure J4[?eT](R0 B0:Mat)[?C](π b:Nat):Prop where
 hi:i<n
 part:?dG R0 t 0 i
 lt:?tK
 hd:∀j,j<i->?EF ?AC ?a2
 rw:∀r c,r<i->G c->(R0 r c).natAbs<=?A
 ri:∀c,G c->(R0 i c).natAbs<=?A
 rp:∀l,l<i->(R0 i ?r).natAbs<=?a2
theorem Part.sub{R:Mat}[?l]{f f' m:Nat}(h:?lH)(hf:f<=f'):?dG R t f' m:=⟨fun j k h1=>?b1 j k O9m,fun j c h1=>?U j c O9m,fun j h1=>?f1,fun k j h1=>?dD k j O9m⟩
theorem Part.congr{R R':Mat}[?l]{f m:Nat}(h:?lH)(e:∀j c,f<=j->j<m->?pJ):?dG R' t f m :=
 ⟨?b1,fun j c h1 h2 h3=>by rw[e j c h1 h2];exact ?U j c h1 h2 h3,fun j h1 h2=>by rw[e j _ h1 h2];exact ?a4 j h1 h2,fun k j h1 h2 h3=>by rw[e k _ h1 ?c,e j _ ?c h3];exact ?dD k j h1 h2 h3⟩
theorem Dt.start[?aN]{R0 B0:Mat}[?l]{π b:Nat}(h:?mV):Dt n W w i G R0 B0 t π b 0 R0 B0:=by
 refine⟨?hL,fun j c hj hc=>h.part.zero j c ?b4 hj hc,fun j hj=>h.part.pos j ?b4 hj,fun _ _ _ _=>rfl,?i2,fun l _ hl=>h.rp l hl,?jX⟩;have e:?A<=2 ^ (?cF+0*?cA):=?hE;by_cases z:r=i
 . subst z;exact qa5 (h.ri c hc) e
 . exact qa5 (h.rw r c O9m hc) e
theorem Dt.skip[?aN][?h0][?l]{π b spot:Nat}[?CE](hz:∀c,?hV->?fD):?D5 R B:=by
 refine⟨h.good,?U,?a4,fun j c hj=>?dH j c O9m,?eN,fun l hl=>h.pv l O9m,fun r c hr hc=>qa5 (?kZ) (qe7 ?D ?_)⟩
 . ext gY
   . subst e;exact hz c hc
   . exact h.pass j c O9m hc
 . rw[qf8];omega
structure Z3[?eT][?a0][?C](b p spot μ:Nat)(R' B':Mat):Prop where
 good:?T n W w ?m R B R' B'
 same:?qA
 left:∀c,?hV->?gM=?aX
 red:∀l,?cU->l<i->?tD
 gc:∀c,G c->?qI<=?uE+?E6 i μ
structure v6[?eT][?a0][?C](b p spot μ j:Nat)(R' B':Mat):Prop where
 s:MN n W w ?m R B t p ?F i j μ R' B'
 gc:∀c,G c->?qI+μ*?A<=?uE+?nI
theorem v6.start[?aN]{R B:Mat}[?l]{b p spot μ:Nat}(h:∀l,?cU->l<i->?A8):v6 n W w i G R B t b p ?d μ ?F R B :=
 ⟨MN.start fun l h1 h2=>?E7 h,fun c _=>by rw[qh5,qw3,qf6];exact ?cI⟩
theorem v6.step[?aN][?kU][?l]{b p spot μ j:Nat}(h:?DW j)(P:?dG R t ?F i)(hG:∀r c,spot<r->r<i->G c->?hJ<=?A)(hf:spot<j)(hj:j<i)(hn:i<n)(hp:p<=spot\/p=i) :
 ?AZ<=2 ^ i*μ/\v6 n W w i G R B t b p ?d μ ?H (?y R' p j (-(?cE))) (?y B' j p (?cE)):=by
 obtain⟨q,s⟩:=h.s.step P O9m hj O9m O9m O9m O9m;refine⟨qa5 q (qb5 _ (?hE)),s,?aS⟩;have ne:p≠j:=O9m
 rw[Cp,?z2 j c ?fL];have a:=?tO;have e:=qf4 (1*?gM) (-(?cE)*?bI);rw[qd1,qb2,qc7]at e;rw[qd1];have m:=qf0 q (hG j c hf hj hc);rw[show j+1-?F=(j-?F)+1 by omega,qg7];have z:2 ^ (j-?F)*2*μ*?A=?nI+?nI:=?dW
 omega
theorem v6.done[?aN][?kU][?l]{b p spot μ:Nat}(h:?DW i)(P:∀l,?cU->l<i->?bA<t l):Z3 n W w i G R B t b p ?d μ R' B' :=
 ⟨h.s.good,?z2,fun c hc=>h.s.left c fun l h1 h2=>by have:=?E7 P;omega,fun l h1 h2=>?E7 h.s.red,fun c hc=>by have:=?tO;omega⟩
theorem Dg{a b:Nat}(h:a<=b):2 ^ a<=?A:=qe7 ?D h
theorem sQ{x y a b:Nat}(hx:x<=2 ^ a)(hy:y<=?A):x*y<=2 ^ (a+b):=by rw[qd8];exact qf0 hx hy
theorem Dt.addPre[?aN][?h0][?kG]{q:Int}(hq:?pR) :
 ∀l,?cU->l<i->(?y R i ?d ?bZ i ?r).natAbs<=?mR*(?y R i ?d ?bZ l ?r).natAbs:=fun l h1 h2=>by
 rw[Cp,Dd (?CR l i)];ext B2;have a:=?lQ;have e:=qf4 (1*R i ?r) (-q*?AY);rw[qd1,qb2,qc7]at e;rw[qd1];have m:q.natAbs*?rL<=?j8:=qf0 hq O9m;have m2:?a2*1<=?j8:=qe2 _ O9m;rw[qg7];have z:?a2*2*?bM=?j8+?j8:=?dW
 omega
theorem Dt.metAdd[?aN]{R0 B0 R B R2 B2:Mat}[?kG]{q:Int}(hq:?pR)(hz:?z5)(he:?sM=q*?zL)
 (S:Z3 n W w i G (?y R i ?d ?bZ) (?y B ?d i q) t b i ?d (?mR) R2 B2):?D5 R2 B2:=by
 have ne:i≠spot:=O9m
 have keep:∀r c,r≠i->R2 r c=?aT:=fun r c hr=>by rw[?eI r c hr,Dd hr]
 refine⟨?_,fun j c hj hc=>by rw[?AD];exact ?sZ,fun j hj=>by rw[?cX j _ ?c];exact ?m9,fun j c hj hji=>by rw[?AD];exact ?z3,?eN,?eA,?jX⟩
 . have g:=?xC (n:=n) (W:=W) (w:=w) (lo:=i+1) R B (?DA i) (?DA spot) H.hi ne ?bZ;rw[qo2]at g;exact ?zB S.good
 . have ts:?hV:=by
    ext gY
    . rw[←e];exact hc
    . ext C6
   rw[S.left c ts,Cp];by_cases e:c=?bA
   . rw[e,he,qd1,qo3];omega
   . rw[?xI,?U ?d c hs ?c];simp
 . obtain⟨a,c⟩:=?E7 S.red;rw[Dd (?CR l i)]at c;ext BM
 . ext BA
   rw[zb];generalize hz2:?hT=z;have hzb:?cF<=z:=?rE
   by_cases e:r=i
   . subst e;have a:=S.gc c hc;have g:=?e2 r c ?j hc;rw[hz2]at g;have rs:?x3:=?x5
     have e1:=qf4 (1*?aT) (-q*?eD);rw[qd1,qb2,qc7]at e1;rw[Cp,qd1]at a;have m1:=sQ hq rs
     have m2:?E6 r ?mR<=?lW:=by
      rw[←qd8,←qd8];exact ?dT
     have m3:?tT<=?lW:=?dT;have m4:4*?lW=2 ^ z:=?DH z z
     have m5:2*2 ^ z<=2 ^ (z+π+1):=by rw[show z+π+1=1+(z+π) by omega,qd8];exact qf0 ?D ?hK
     omega
   . rw[?cX r c e];have g:=?kZ;rw[hz2]at g;exact qa5 g ?hK
structure JX(π:Nat)(h0 o0 x y z u:Int):Prop where
 one:x*u-y*z=1
 hd:0<x*h0+y*o0
 ot:z*h0+u*o0=0
 lx:?o6
 ly:?l6
 lz:z.natAbs<=?a2
 lu:u.natAbs<=?a2
theorem jA{x y a c:Int}{π h:Nat}(hx:?o6)(hy:?l6)(ha:a.natAbs<=h)(hc:c.natAbs<=?a2)(h1:1<=h):(x*a+y*c).natAbs<=?cD*h:=by
 have e:=qf4 (x*a) (y*c);rw[qb2,qb2]at e;have m1:x.natAbs*a.natAbs<=?kB:=qf0 (qa5 hx ?hK) ha;have m2:y.natAbs*c.natAbs<=?kB:=qa5 (sQ hy hc) (by rw[show π+π=2*π by omega];exact qi0 _ h1);rw[qg7];have z:?sK*2*h=?kB+?kB:=?dW
 omega
theorem Dt.blendPre[?aN][?h0][?kG][?BR] :
 (?CO ?d)/\(?CO i):=by
 have ne:?wG:=O9m
 have base:∀l,?cU->l<i->?rL<=?bM/\1<=?bM:=fun l h1 h2=>by
  ext B2;omega
 refine⟨?eA,?eA⟩
 . rw[?bG,?l9];exact jA e.lx e.ly (?i9).1 (?lQ) (?i9).2
 . rw[Ja,?l9];exact jA e.lz e.lu (?i9).1 (?lQ) (?i9).2
theorem Dt.metBlend[?aN]{R0 B0 R B R2 B2 R3 B3:Mat}[?kG][?BR](hz:?z5)
 (S1:Z3 n W w i G (?u R ?d i x y z u) (?u B ?d i u (-z) (-y) x) t b ?d ?d (?cD) R2 B2) (S2:Z3 n W w i G R2 B2 t b i ?d (?cD) R3 B3):?D5 R3 B3:=by
 have ne:?wG:=O9m
 have keep:∀r c,r≠i->?yE->R3 r c=?aT:=fun r c h1 h2=>by rw[S2.same r c h1,?n0 r c h2,Ec h2 h1]
 have rs:∀c,R3 ?d c=R2 ?d c:=fun c=>S2.same ?d c ne;have r2i:∀c,R2 i c=z*?eD+u*?dZ:=fun c=>by rw[?n0 i c (fun w=>ne w.symm),Ja]
 have gz:∀c,c<?bA->?eD=0:=fun c hc=>?U ?d c hs hc;refine⟨?_,?eN,?aL,fun j c hj hji=>by rw[?cX j c ?c ?c];exact ?z3,?eN,?eA,?jX⟩
 . have g:=Good.blend (n:=n) (W:=W) (w:=w) (lo:=i+1) R B (?DA spot) (?DA i) H.hi ne e.one;exact(?zB S1.good).trans S2.good
 . by_cases e1:?dN
   . subst e1;rw[rs,S1.left c ?c,?bG,gz c hc,hz c hc];simp
   . rw[?cX j c ?c e1];exact ?sZ
 . by_cases e1:?dN
   . subst e1;rw[rs,S1.left _ ?j,?bG];exact e.hd
   . rw[?cX j _ ?c e1];exact ?m9
 . have ts:?hV:=by
    by_cases e1:?dN
    . rw[←e1];exact hc
    . ext C6
   rw[S2.left c ts,r2i];by_cases e1:c=?bA
   . rw[e1];exact e.ot
   . rw[?xI,gz c ?c];simp
 . obtain⟨a,c⟩:=?E7 S2.red;rw[?n0 l _ ?c,?l9]at c;ext BM
 . ext BA
   rw[zb];have g0:=?e2 ?d c O9m hc;have gi:=?e2 i c ?j hc;have gr:=?kZ;generalize hz2:?hT=zz at g0 gi gr;have hzb:?cF<=zz:=?rE
   have rsb:?x3:=?x5
   have bnd:∀{x y:Int},?o6->?l6->(x*?eD+y*?dZ).natAbs+?E6 i ?cD<=2 ^ (zz+π+1):=fun {x y} hx hy=>by
    have e1:=qf4 (x*?eD) (y*?dZ);rw[qb2,qb2]at e1;have m1:=sQ hx rsb;have m2:=sQ hy gi
    have m3:?E6 i ?cD<=?mF:=by
     rw[←qd8,←qd8];exact ?dT
    have m4:?tT<=?mF:=?dT;have m5:4*?mF=2 ^ zz:=?DH zz zz
    have m6:2 ^ zz<=2 ^ (π+zz):=?dT;have m7:2 ^ (zz+π+1)=2*2 ^ (π+zz):=by rw[show zz+π+1=1+(π+zz) by omega,qd8,Nat.pow_one]
    omega
   by_cases e1:r=i
   . subst e1;have a:=S2.gc c hc;rw[r2i]at a;exact qa5 a (bnd e.lz e.lu)
   . by_cases e2:?nX
     . subst e2;have a:=S1.gc c hc;rw[?bG]at a;rw[rs];exact qa5 a (bnd e.lx e.ly)
     . rw[?cX r c e1 e2];exact qa5 gr ?hK
noncomputable def insT[?C](s st:Nat):?aJ:=fun r=>if r<s then t r else if r=s then st else t ?e5
structure uF[?eT](R0 B0:Mat)(t1:?aJ)(Y:Nat)[?a0]:Prop where
 good:?o3
 s0:Ip ?m R t1
 lt:∀j,?c7->t1 j<W
 pg:∀j,?c7->G (t1 j)
 gc:?F4 Y
theorem Dt.ins[?aN][?h0][?l]{π b spot st:Nat}(H:?mV)[?CE](hs:spot<=i)(h0:∀c,c<st->?fD)(h1:R i st≠0)(hW:st<W)(hG:G st)(zW:?xR)(hex:spot<i->st<?bA) :
 uF n W w i G R0 B0 (insT t ?d st) (?cF+i*?cA) (if ?hC<0 then Gj ?iO ?d else ?vZ) (if ?hC<0 then Gj (?nA) ?d else ?nA):=by
 have row:∀c,?yB=?dZ:=fun c=>by ext gV;ext p5
 have lo:∀r c,r<spot->?hU=?aT:=fun r c hr=>by ext gV;rw[?g hr]
 have up:∀r c,spot<r->?aQ->?hU=R ?e5 c:=fun r c hr hi=>by ext gV;rw[?n,?n,?g hi]
 have gm:?T n W w ?m R0 B0 ?iO (?nA):=?j0 (Good.move R B O9m hs H.hi)
 have tl:∀j,?fY->t j<st:=fun j hj=>by
  refine qk1 fun z=>h1 (h.pass j st hj z)
 have inc:∀j k,j<k->k<i+1->?g6<insT t ?d st k:=fun j k hjk hk=>by
  unfold insT;by_cases a1:?fY
  . rw[?k9];by_cases b1:k<spot
    . rw[?g b1];exact ?fB j k ?b4 hjk O9m
    . rw[?f b1];by_cases b2:k=spot
      . rw[?g b2];exact tl j a1
      . rw[?f b2];exact ?DM j
  . rw[?jZ,?f (show ¬k<spot by omega),?f (show ¬k=spot by omega)];by_cases a2:?dN
    . rw[?m4];have e:=hex O9m;by_cases e2:k-1=spot
      . rw[e2];exact e
      . exact qt8 e (?DM ?d)
    . rw[?mT];exact ?DM ?gN
 have zero:∀j c,j<i+1->c<?g6->?FB j c=0:=fun j c hj hc=>by
  unfold insT at hc;by_cases a1:?fY
  . rw[?k9]at hc;rw[lo j c a1];exact ?U j c O9m hc
  . rw[?jZ]at hc;by_cases a2:?dN
    . rw[?m4]at hc;rw[a2,row];exact h0 c hc
    . rw[?mT]at hc;rw[up j c ?c ?c];exact ?U ?gN c O9m hc
 have Ag6:∀j,j<i+1->j≠spot->0<?FB j (?g6):=fun j hj hne=>by
  unfold insT;by_cases a1:?fY
  . rw[?k9,lo j _ a1];exact ?f1
  . rw[?jZ,?f hne,up j _ ?c ?c];exact ?a4 ?gN O9m
 have ts:insT t ?d st ?d=st:=by unfold insT;ext p5
 have bd:∀r c,?aQ->G c->(?hU).natAbs<=2 ^ (?cF+i*?cA):=fun r c hr hc=>by
  rw[move_row]
  have lm:mvI i ?d r<=i:=by
   unfold mvI;by_cases a1:r<spot
   . rw[?k9];omega
   . rw[?jZ];by_cases a2:?nX
     . rw[?m4];omega
     . rw[?mT,?g hr];omega
  refine qa5 (?e2 _ c lm hc) (Dg ?_);have:=qb5 ?cA hs;omega
 have lt:∀j,?c7->?g6<W:=fun j hj=>by
  unfold insT;split
  . exact H.lt j O9m
  . split
    . exact hW
    . exact H.lt ?gN O9m
 have pg:∀j,?c7->G (?g6):=fun j hj=>by
  unfold insT;split
  . exact zW j O9m
  . split
    . exact hG
    . exact zW ?gN O9m
 by_cases neg:?hC<0
 . rw[?g neg,?g neg];have nr:∀c,Gj ?iO ?d ?d c=- ?yB:=fun c=>Bn ..;have nn:∀r c,?yE->Gj ?iO ?d r c=?hU:=fun r c hr=>Bv hr c;refine⟨gm.trans (Good.neg _ _ O9m H.hi),⟨inc,?eN,?aL⟩,lt,pg,?jX⟩
   . ext gY
     . have z:=?v7;rw[e]at z ⊢;rw[nr,z];rfl
     . rw[nn j c e];exact ?v7
   . ext gY
     . rw[e,nr,ts];omega
     . rw[nn j _ e];exact ?sV
   . by_cases e:?nX
     . have z:=?sX;rw[e]at z ⊢;rw[nr,qc7];exact z
     . rw[nn r c e];exact ?sX
 . rw[?f neg,?f neg];refine⟨gm,⟨inc,zero,?aL⟩,lt,pg,bd⟩;ext gY
   . rw[e,ts];have:?hC≠0:=by rw[row];exact h1
     omega
   . exact ?sV
structure Ot(n W w i:Nat)(R0 B0:Mat)[?C](k:Nat)[?a0]:Prop where
 good:?o3
 s0:?y3
 old:∀r c,r<k->?aT=R0 r c
 red:∀r j,k<=r->r<j->?c7->0<=R r ?K/\R r ?K<?S
 hd:∀j,?c7->?S=?AC
theorem Ot.start{n W w i:Nat}{R B:Mat}[?l](h:?y3):Ot n W w i R B t ?m R B:=⟨?hL,h,?hP,fun r j h1 h2 h3=>O9m,?kC⟩
theorem Ot.part{n W w i:Nat}[?h0][?l]{k:Nat}(h:Ot n W w i R0 B0 t k R B):?dG R t k ?m:=⟨fun j l _ h1 h2=>?l0 j l h1 h2,fun j c _ h1 h2=>?qG j c h1 h2,fun j _ h1=>?rO j h1,fun r j h1 h2 h3=>?dD r j h1 h2 O9m⟩
theorem Ot.next{n W w i:Nat}{R0 B0 R B R' B':Mat}[?l]{k μ:Nat}(h:Ot n W w i R0 B0 t ?eP R B)(hk:k<=i)(S:MN n W w ?m R B t k ?eP ?m ?m μ R' B'):Ot n W w i R0 B0 t k R' B':=by
 have tl:∀c,c<=t k->R' k c=R k c:=fun c hc=>S.left c fun l h1 h2=>by have:=?l0 k l O9m h2;omega
 refine⟨?j0 S.good,⟨?l0,?eN,?aL⟩,?AB,fun r j h1 h2 h3=>?_,?aL⟩
 . ext Y
   . subst e;rw[tl c ?c];exact ?wR
   . rw[?eI j c e];exact ?wR
 . ext Y
   . subst e;rw[?wA];exact ?zS
   . rw[?A0];exact ?zS
 . rw[?eI r c ?c];exact ?dH r c O9m
 . rw[?eI j _ (?CR j k)];by_cases e:r=k
   . subst e;exact S.red j O9m O9m
   . rw[?eI r _ e];exact ?dD r j O9m h2 h3
 . ext Y
   . subst e;rw[?wA];exact ?y2
   . rw[?A0];exact ?y2
structure D6[?eT](M B0:Mat)[?C][?a0]:Prop where
 good:?T n W w i M B0 R B
 st:Dj W i R t
 pg:?xR
theorem D6.start(n W w:Nat)(G:?iC)(M B0:Mat)[?C]:D6 n W w 0 G M B0 t M B0:=⟨?hL,⟨?eE,fun j k _ hk=>O9m,?i2,?eE,fun k j _ hj=>O9m⟩,?eE⟩
theorem D6.next[?aN]{M B0 R B R1 B1 R2 B2:Mat}{t t1:?aJ}{Y:Nat}(h:D6 n W w i G M B0 t R B)(I:uF n W w i G R B t1 Y R1 B1)(D:Ot n W w i R1 B1 t1 0 R2 B2):D6 n W w ?m G M B0 t1 R2 B2 :=
 ⟨((h.good.mono O9m).trans I.good).trans D.good,⟨?EY I.lt j,D.s0.inc,D.s0.zero,D.s0.pos,fun k j h1 h2=>D.red k j ?b4 h1 O9m⟩,?EY I.pg j⟩
theorem D6.rows{n W w:Nat}{G:?iC}{M B0 R B:Mat}[?l](h:D6 n W w n G M B0 t R B)(hw:w<=W):Ep n w M R:=by
 have e:=h.good.eqv n ?j;have cut:∀{S:Mat}{v:?i},In W n S v->?ES S v:=fun⟨x,hx⟩=>⟨x,fun c hc=>hx c O9m⟩
 refine⟨fun i hi=>cut (e.1 i hi),fun i hi=>cut (e.2 i hi),?_⟩
 obtain⟨r,hr,h1,h2⟩:∃r,?b3/\?F0 n:=by
  have:∀m,m<=n->∃r,r<=m/\?F0 m:=by
   intro m
   induction m with
   | zero=>intro _;exact⟨0,?cI,?eE,fun j _ hj=>O9m⟩
   | succ m ih =>
     intro hm;obtain⟨r,a,b,c⟩:=ih O9m;by_cases z:t m<w
     . have hrm:r=m:=by
        refine qi4 a (qh1 fun y=>?_);have:=c r ?j y;have:=?vG r m y O9m;omega
       exact⟨m+1,?cI,fun j hj=>by
        by_cases q:j=m
        . rw[q];exact z
        . exact b j O9m,fun j h1 h2=>O9m⟩
     . exact⟨r,O9m,b,fun j h1 h2=>by
        by_cases q:j=m
        . rw[q];omega
        . exact c j h1 O9m⟩
  exact ?aR n ?j
 exact⟨r,t,hr,⟨h1,fun j k a b=>?vG j k a O9m,fun j c a b=>?rD j c O9m b,fun j a=>h.st.pos j O9m,fun k j a b=>h.st.red k j a O9m⟩,fun i c a b d=>?rD i c b (by have:=h2 i a b;omega)⟩
noncomputable def unit(e:Int)(j:Nat):?i:=fun c=>if c=j then e else 0
noncomputable abbrev tr(T:Mat):Mat:=?wU
structure Iq(n w r:Nat)(e:Int)(T:Mat):Prop where
 rn:?b3
 rw:r<=w
 row0:?zT
 col0:?sH
 rows:?wX
 cols:?uJ
theorem Iq.flip[?pB](h:?nV):Iq w n r e ?e1:=⟨h.rw,h.rn,fun i c h1 h2 h3=>?l1 c i h3 h1 h2,fun i c h1 h2 h3=>h.row0 c i h2 h3 h1,h.cols,h.rows⟩
theorem Si{n w r r':Nat}{e:Int}{T:Mat}[?l](he:0<e)(hr:r<=w)(hr':r'<=n)(hst:Dj w r' T t)(hz:∀i c,r'<=i->?s3)[?BL] :
 r'=r/\(?n8)/\?rC:=by
 have tl:∀j,j<r'->t j<r:=fun j hj=>by
  ext eW;have p:=?tR;rw[hc j ?K ?c z (?d0 j hj)]at p;omega
 have main:∀j,j<=r->j<=r'/\(∀k,k<j->?hA)/\∀k,k<j->?aE∣e:=by
  intro j
  induction j with
  | zero=>intro _;exact⟨?b7,?kW,?kW⟩
  | succ j ih =>
    intro hj;obtain⟨a,b,c⟩:=ih O9m;obtain⟨x,hx⟩:=(Lo j O9m).sub hr' hz;have v0:∀k,k<j->?a7 e j ?z=0:=fun k hk=>by rw[b k hk];exact ?f O9m
    obtain⟨x0,x1⟩:=?kX hx j a v0;have ej:?mO=e:=?t
    have lt:j<r':=by
     ext eW
     have:?mO=0:=by
      rw[?x1];exact Bj fun k hk=>by rw[x0 k ?c];simp
     omega
    have tj:t j=j:=by
     refine qi4 ?g5 (?gR j lt)
     have:?mO=0:=by
      rw[?x1];refine Bj ?gT;by_cases e1:k<j
      . rw[x0 k e1];simp
      . rw[?f8 k j hk (qb4 z (?v9 j k ?c hk))];simp
     omega
    have d:=x1 lt;rw[tj,ej]at d;refine⟨lt,?gT,?gT⟩
    . by_cases e1:k=j
      . rw[e1];exact tj
      . exact b k O9m
    . by_cases e1:k=j
      . rw[e1];exact⟨x j,by rw[d,qf7]⟩
      . exact c k O9m
 obtain⟨a,b,c⟩:=main r ?j;refine⟨qi4 ?g5 a,b,c⟩;have:=tl r z;have:=?gR r z;omega
theorem W9[?pB][?l](gQ:?b3)(hrw:r<=w)[?C2][?BL]:?uJ:=by
 have ch:∀j,∃x:?i,j<r->∀c,c<w->?w1=Al (fun k=>x k*?gO) r:=fun j=>by
  by_cases hj:j<r
  . obtain⟨x,hx⟩:=(Lo j hj).sub gQ hz;exact⟨x,fun _=>hx⟩
  . exact⟨?fJ,fun z=>absurd z hj⟩
 obtain⟨X,hX⟩:∃X:?xX,∀j,j<r->∀c,c<w->?w1=Al (fun k=>X j k*?gO) r:=Classical.axiomOfChoice ch
 have key:∀i,i<r->∀j,j<r->Al (fun c=>?eH*X c j) r=?yG:=by
  intro i hi
  have hz0:∀c,c<w->(?yW) c=?AU:=by
   intro c hcw
   have e1:?AU=Al (fun j=>Al (fun d=>?mK*?cR) r+?q*((if j=i then 1 else 0)*(e*?cR))) r:=by
    refine Ao fun j _=>?_;rw[Int.sub_mul,←Gm];by_cases z:i=j
    . subst z;rw[?t,?t];omega
    . rw[?e8,?EN z];omega
   rw[e1,De,Bh,Dk (fun j=>e*?cR) i r,?g hi,D8]
   have e2:Al (fun d=>Al (fun j=>?mK*?cR) r) r=Al (fun d=>T i d*?a7 e d c) r:=by
    refine Ao ?tM;rw[hX d hd c hcw,←Bh];exact Ao fun j _=>qe6 ..
   rw[e2];show ?iQ=_;by_cases hcr:c<r
   . rw[?aW (j:=c) hcr fun d hd hne=>by show ?ER 0;rw[?EN hne];simp];show ?iQ=?eH*(if c=c then e else 0)+-1*(e*?eH);rw[?t,qf7];omega
   . rw[Bj fun d hd=>by show ?ER 0;rw[?n];simp,hc i c ?c ?c hcw];simp
  obtain⟨a,_⟩:=?kX hz0 r ?j ?kC;intro j hj;have:=a j hj;omega
 intro i hi;refine⟨fun c=>if c<r then X c i else 0,fun c hcn=>?_⟩;show ?a7 e i c=?uL
 have e1:?uL=?qS:=by
  have:∀m,r<=m->m<=w->?DF m=?qS:=by
   intro m
   induction m with
   | zero =>
     intro h1 _;have:r=0:=O9m
     subst this;rfl
   | succ m ih =>
     intro h1 h2;by_cases q:r=m+1
     . subst q;refine Ao ?gT;rw[?g hk,qf7]
     . show Al _ m+(if m<r then X m i else 0)*T c m=_;rw[?xK,?n];simp
  exact ?aR w hrw ?j
 rw[e1];by_cases hcr:c<r
 . rw[key c hcr i hi];rfl
 . rw[Bj fun k hk=>by rw[hz c k ?c hcn ?c];simp];exact ?f O9m
theorem Ep.square{n w r:Nat}{e:Int}{T T':Mat}(s:?lY)(he:0<e)(h:?nV):Iq n w r e T'/\∃t,?g1/\(?n8)/\?F5 T' e:=by
 obtain⟨r',t,hr',hst,hz⟩:=s.st
 have hc:∀i c,i<n->r<=c->?t2:=fun i c hi h1 h2=>by
  obtain⟨x,hx⟩:=s.fwd i hi;rw[hx c h2];exact Bj fun k hk=>by rw[?l1 k c hk h1 h2];simp
 have Lo:∀j,j<r->?ES T' ?zZ:=fun j hj=>(h.rows j hj).trans s.bwd;obtain⟨e1,e2,e3⟩:=Si he h.rw hr' hst hz hc Lo;subst e1;exact⟨⟨h.rn,h.rw,hz,hc,Lo,W9 h.rn h.rw hst hz hc Lo⟩,t,hst,e2,e3⟩
theorem KJ[?pB][?l](he:0<e)(h:?nV)(hst:?x7)(ht:?n8)(hd:?rC){i c:Nat}(hi:i<n)(hc:c<w):0<=?eH/\?eH<=e:=by
 by_cases a:i<r
 . by_cases b:c<r
   . have l:=ql0 he (hd c b);rcases qm9 i c with z | z | z
     . have:=hst.red i c z b;rw[ht c b]at this;omega
     . subst z;have:=?jC i a;rw[ht i a]at this;omega
     . rw[?f8 i c a (by rw[ht i a];exact z)];omega
   . rw[?l1 i c hi ?c hc];omega
 . rw[h.row0 i c ?c hi hc];omega
theorem gW{n w r:Nat}{T:Mat}[?l](gQ:?b3)[?C2]:∀i,i<r->?E2 (?o2):=by
 have main:∀m i,i<m->m<=r->?E2 (?gB):=by
  intro m
  induction m with
  | zero=>intro i hi;omega
  | succ m ih =>
    intro i hi hm;by_cases q:i<m
    . exact ih i q O9m
    have qi:i=m:=O9m
    subst qi
    have up:∀k,k<=i->In n w ?e1 (fun d=>?D8 k):=by
     intro k
     induction k with
     | zero=>intro _;exact ?hG ..
     | succ k ihk =>
       intro hk;have hk2:=ih k O9m O9m
       obtain⟨g,hg⟩:∃g,?dU=?nL*g:=by
        have:∀m,k+1<=m->∃g,?y8=?nL*g:=by
         intro m
         induction m with
         | zero=>intro h;omega
         | succ m ihm =>
           intro h;by_cases z:k+1=m+1
           . exact ?yM
           . ext B7
        exact ?aR i O9m
       refine((ihk O9m).mix hk2 1 (T k ?bK*g)).congr ?s0;show 1*Al _ k+?F3 g ?nL=Al _ k+?F3 ?dU 1;rw[hg];by_cases z:d=k
       . rw[?gE,?gE];grind
       . rw[?e8,?e8];omega
    have col:In n w ?e1 (tr T ?bK):=?s (?d0 i O9m);refine(col.mix (up i ?j) (?dU) ?q).congr ?tM;show ?dU*T d ?bK+-1*?D8 i=?lK;by_cases z:d<i
    . rw[?aW (j:=d) z fun l hl hne=>by rw[?EN hne];simp,?t];rw[show ?lK=0 from ?n]
      grind
    . rw[Bj fun l hl=>by rw[?n];simp];by_cases z2:d=i
      . subst z2;rw[show ?a7 (?vF) d d=?vF from ?t];show _=?k ?cB d*T d (t d);omega
      . rw[show ?lK=0 from ?f z2]
        have:T d ?bK=0:=by
         by_cases z3:d<r
         . exact hst.s0.low z3 O9m
         . exact hz d _ O9m hd (?d0 i O9m)
        rw[this];simp
 intro i hi
 obtain⟨g,hg⟩:∃g,?o2=?gB*g:=by
  have:∀m,i+1<=m->∃g,?y8=?gB*g:=by
   intro m
   induction m with
   | zero=>intro h;omega
   | succ m ihm =>
     intro h;by_cases z:i+1=m+1
     . exact ?yM
     . ext B7
  exact ?aR r hi
 refine((main r i hi ?j).mix (?hG ..) g 0).congr ?s0;show g*(if d=i then ?gB else 0)+0*0=if d=i then ?o2 else 0
 by_cases z:d=i
 . rw[?gE,?gE,hg];grind
 . rw[?e8,?e8];omega
theorem Vb.square{n w:Nat}{T T' Nc:Mat}{r:Nat}[?l](hr:?b3)(hst:?g1)(hz:?jV)(s2:Ep w n (tr T') ?iL):r<=w/\Iq n w r (?iS) Nc/\∃u,Dj n r ?iL u/\(∀j,j<r->u j=j)/\?F5 Nc ?iS:=by
 have he:0<?iS:=Cj fun j hj=>?tR;obtain⟨q,u,hq,i6,OR⟩:=s2.st
 have hrw:r<=w:=by
  by_cases z:r=0
  . omega
  . have:=?gR ?e5 O9m;have:=?d0 ?e5 O9m;omega
 have hc:∀i c,i<w->r<=c->c<n->tr Nc i c=0:=fun i c hi h1 h2=>by
  obtain⟨x,hx⟩:=s2.fwd i hi;rw[hx c h2];exact Bj fun k hk=>by rw[show tr T' k c=0 from hz c k h1 h2 hk];simp
 have Lo:∀j,j<r->In n w ?iL (?a7 (?iS) j):=fun j hj=>(gW hr hst hz j hj).trans ?mY;obtain⟨e1,e2,e3⟩:=Si he hr hq i6 OR hc Lo;subst e1;have sq:Iq w n q (?k (?DG ?K) q) ?iL:=⟨hrw,hr,OR,hc,Lo,W9 hrw hr i6 OR hc Lo⟩
 exact⟨hrw,sq.flip,u,i6,e2,e3⟩
end
mutual
#check(4,[?a,?b,(?lH),spot,some,(?bM),(i+1),Nat->Int,if_pos,.ref,if_neg,prodN,Nat->Nat,(w+n),beside,?k ?c,(?fP),?i rfl,∀{t:?m},a,2 ^ c,Lat.Mat × Lat.Mat,addR,.inl,this,.int,.inr,(n+1),.(by grind),shrS,r<=j,.lst,∀(t:?m),a,∀{f:?h},a,(t j),Bits,(k+1),∀(f:?h),a,(i-d),Mat × Mat,A.fdiv B,(d+1),.(by intro z;cases z),.(by exact this),Nat->Prop,(R,B),(?o w T P),2 ^ b,(w+a),sumN_one,.(by rw[?dK]),(?cB),2 ^ π,(?cQ t ?d st),2 ^ β,qa9 _,none,.(by rw[?p]),∀(s:?u),a,?j p,.ins,ih O9m,(?cQ t i ?aX),(by ext P),h.pos,Q .non H',∀{s:?M},a,.(by exact ?bM),∀(hi:i<n),a,absurd,downS,(j+1),(i-?q),spot<=i,(t l),z.symm,∀{kt t:?m}{hd:?h},a,∀(K:W.Frag)(CL CS CW:Addr),a,∀(x:?sD),a,.(by rw[Bu];omega),.(by rw[?bQ]),∀(n w:Nat),a,∀{n w:Nat},a,Same H H',R j ?H,?k h1,(kt i),?i ?c,(i-(e+1)),Nat->?h,∀{C:?R}{δ:Nat},a,∀(n W:Nat),a,(H0:Hp),?i h1,moveR,(f+d),?k h2,List,Eh π b r,(η+1),(?bS),?l f m,r1.fdiv r2,fs.lookup,∀{R B:Mat},a,(by decide),x.ne,hd j,fun x a=>R x ?V,?aH t i ?S d,r<=n,qa1 _,i≠j,put2,(fun c=>c<w),?i z,Option.none,i-d+1,∀{G:?R}{M B0 R B:Mat},a,∀(s:?M),a,.(by rw[this];simp),(?d9),(?bI).natAbs,cS π i,Addr->Prop,(n+w),blendR,(Q c),(?jJ),?i h2,spot<i,cM π i,2 ^ i,A / g,x.sm,(?a2),kt j,(n w:Nat),K.zero,(?p3),U k c,Ro f ne,(s l),c<w+n,H.hi,η+1+?b9,(?aV).natAbs,(tr R),R l c,addS,T k c,insT,t ?d,.(by refine qs2.mp ?qK),∀(bb:?rI),a,∀(l r:?u),a,.(by split<;>omega),∀(i j:Nat),a,T r ?jQ,insAt,(?m6),2 ^ δ,if a=b then 1 else 0,?b8 Addr,h.st.lt,s2.1,K.head,V9 s r c,2 ^ ?rV,fun z=>?_,Dg O9m,insS i ?d st s',(c+1),d<=i+1,Rep.same,?dW hc,(r x),(b+i+3+2*π+i*(π+1)),(L+2),x.2.2,K.inc,?k z,(?gV).1,V r c,BB.bo,?e o,(w+c),x.nu,Lat.shrS,(s:?u),(n W:Nat),fun j hj=>?_,m<=n,beside_lo,2 ^ η,if x=j then u else s x,insS i ?d st ?S,(by ext aQ),∀(_K:W.Frag)(CL CS CW:Addr),a,∀(h:?eQ),a,∀{n W w r i:Nat},a,.(by exact qj9 _ g0),∀{G:?R},a,∀(s:?m),a,?E4 k c,Z r c,(t ?b6),b*f x,?jJ<=i,Mo π b η r n,s.1 i ?eT,r1-?bD*r2,?k ne,(?m5,Lat.one),f i / g,(?cK),T k k,?i e,?u->Prop,(v:V),(?v P i j 1),x c*T c c,h.old,Fh n w r E e T,?l f' k,funext,(?cR),?b8 V,R i x,β+(π+2),h.ker,β+?iB,Eh π b i,ChainAt,fun x a=>S x (n+a),(fun j=>?aV),spot<r,(?y5),(tr A),s.1 i c,(f j),?b8 Int,if ?jX then x k*?cP else 0,(?fZ),(t k),ih ?c,x1*y2-x2*y1,x.2.1,2 ^ ?fM,(β+?c6),h.st.pos,?l f k,U a i,(f i),as.map V.ref,(β+c),Lat.addS,Straight n w T,spot+1,V.int,DiagAt,?D5 (fun k=>?r9),(?gZ),?D5 (fun a=>?iU*PB u a),(by ext cV),(f+m),fun k=>B k a*?lN,(i+d),fun y x=>M x (s y),β+?b9,K.red,K.pos,fun k hk=>?_,h x y hx hy,∀{f f':?h}(h:?uZ)(hl:?vX)(hr:?E9 QB Q),a,∀(K:?yK)(h:?z1)(hi:r<=i),a,∀{A B r1 x1 y1 r2 x2 y2:Int},a,∀{kt:?m}{hd:?h},a,∀{n W w i:Nat}{G:?R},a,∀{n w r:Nat}{E:Nat}{e:Int},a,.(by rw[?aY]),∀{K:W.Frag}{CL CW:Addr},a,∀(g:?eQ),a,?DV i G,?l (?vJ) m,(?nQ),fun x hx=>?_,(fun k=>?gP),(?eH),?C t p ?q ?S d,fun k=>x k*?cP,f i∣f j,ChainTo,?EC ?hG,(x k).natAbs,?z h,PB k a,bb.mono,(?z (?z z)),?b5 R i ?d ?d st<0,?C t p f ?S d,M i i,h.st.zero,moveS,fun j=>?i0,Shares,(-(?lF)),(fun a=>a=nm\/a=r2\/a=b2),h.good.rest,(l r:?u),V9 s j c,R k c,?aH ?a9 i ?S d,?uA n w M,?l f' m,?j2=0,?k q,i+1-d,(?e (w:Int)),Cq ?c,st.lt j hj,(n-r),fun k hk=>h k O9m,(?oL),bb.2.1,qe2 _ O9m,(p q:Addr),R r x,Lat.Shares,(m+d),K3 R t i r,h.st.red,(?rC),Option Lat.Mat,(1:Int),Vc r b H H',bs[i]?,fun a c=>?A9,lx.nb,(n<=1000),?b8 α,T j j,∀j,j<i->t j<w+n,lx.nr,?F0 x m,?c5->st<?cR,(tr S),this.table,h.tab,?y (w:Int),Up U f W m s j,?k e,F1 π b i,y k i,K3 R t i ?aZ,(?eH*f j),s.1 j ?H,(W<=1000),(s x),h r c hr hc,?cQ t ?d ?jG j,(?l3).2.2,fun x=>M x (s 0),addR_row_ne,(p L R nm:Addr),h.st.inc,2 ^ e,?CI ne,qh6 ?bG O9m,(by unfold cM;omega),spot*?c6,P' x a,(i+1+m),?DD n,(c-w),(t:?m),st.inc,Al (?gL) m,(w<=60),R i c,(?o9),?l (?oA) j,Kp H H',Gr ?x,(r+d),?l f ?hO,M a ?H,Al f j,(?z (?w z)),(?sX t ?d st),v ?fB,(i-r),(?F7 ?cI),(?lA),?y i,Iq n w r e T,?fP+d,(?lY),qg9 ?e0,(z▸hN),(vs=[?a6]),(M:?bZ),e.symm,(s c),SameX,T i c,fun r c hr hc=>?_,(-(b*q)),(i<n),(m+1),c+1<=k/\k<r,A-?N*B,Al (?fX) i,s x=s y->x=y,(?eD),st.zero,?C t p f s m,if k=j then 1 else 0,fun i hi=>?_,Fi f n,fun _ _=>rfl,fun j h1 h2=>?_,Nat->(?h)->?u9,(M:Lat.Mat),∀{n W w i m:Nat}{G:?R}{M B0 R B:Mat}{t:?m}{D:Nat}(hD:Ou m G M D)(h:?gE),a,∀{C p r b:Addr}{sv:Option V}{n W:Nat}{s:?u},a,∀{ns:?f8}(x:?zQ),a,∀(hp:?CL C fs)(sx:?o5),a,∀(K:?AO),a,.(by rw[?k y,?p]),.(by rw[?i y,?aY]),∀{p C dx:Addr}{fs:?b8 (Str × V)},a,∀(x:?l9),a,∀(kt:?m)(hd:?h),a,.(by have p:=?DN ?g2),∀(he:?nU),a,∀(h:?uW),a,∀(VM:∀c,G c->c<W),a,∀{N:?bZ},a,∀(s:?aU),a,HT.sIx,Hn W ?rD st,Fi ?gI j,.(by have:=h.pos;omega),?hN ?fK ?f7 g a b,2 ^ ?hG,?aH ?a0 i (?dA) ?g,?D5 (fun k=>?iC*?gR),Int.dvd_add,one j c,?D3 p,h.partOf,a2 a ha,?C t p f s d,?EP k,(R r c).natAbs,h.st.s0,H a=none,?DU H N,kt ?d,?EZ ?d ?j3,?mG j hj,?CX zO r2,?l f n,b*f j / g,x.same.trans,.(by omega),2 ^ d*?oP,.(by rw[eA];ext e4),?gY i ?d x,h.detsD,s.eqv n ?f,R k ?H,?F0 a m,h.skip,x2*r1+-x1*r2,π<=8990,a∈as,h k c hk hc,?d3 j hj,r2≠0,h.st.pg,Fi g n,s.1 ?d ?eT,⟨fun j k _=>?iO j k,fun j c _=>?gX j c,fun j _=>?fH j,fun k j _=>?hQ k j⟩,(?gK).1,Al (fun k=>x k*?CE (U k) q) m,c<=k/\k<r,a m*U m c,fun r x hr hx=>?_,Lat.one,fun _=>0,hx c ?c,?F8 (?bK) m,qe6 ..,?l ?fT k,(?dZ).2,w+n<=W,po x x1 x2,?DD d,hst.pos j hj,st.pos,b2 a ha,Al (fun k=>x k*?E4 k ?Y) j,if u<m then f u*?oQ else 0,r1≠0,pT n B0 M a ?H,?aH t i ?S 0,?k x2,s _ _ e,?hC<=r/\r<i,?EI ?eE r2.natAbs,?CI e,cV n w i j f l r,h.st.next,?DN ?d5,?D5 (fun c=>Al (fun l=>(RB l a-?fS)*R l ?dP) n*RB i c),I ?d s,?l (fun j=>T' j ?H) r,dN T s k,?k (?CI y1),a*u c+b*v c,h.back x hx,2 ^ b0,(?eJ).natAbs,MK i M,j<=spot,det k (Up U f W m (fun x=>?dY) ?aI),η+1<=β,h.zero,I ?d s',M k ?Y,∀j,j<i->(B j a).natAbs<=2 ^ j*m,if x=y then f x else 0,IntMulOk,Lat.downS,x.keep,B.fdiv r2,Al (fun k=>a k*?DJ (U k)) m,List.range,S1.same,.(by rw[←qd8];congr 1;omega),g.sq.row0,BO n W s,Ao fun k _=>?B,(Z5▸hi),fun x=>M x (s y0),?cO i ?d (-q) ?S,?l (?oA) k,(i:Nat),U m M' l' r',e.natAbs<=?Z,hx c hc,?k (?CI y2),Pt hA hB,?k x1,det i ?wF,x m*U m c,run d hd,Lat.blendS,Fin k f l r,fun c=>Al (fun v=>?uY*Q v c) w,?jR p H H',(R k ?fB).natAbs,h.diag,st.red,blendS ?d i x y z u ?S,fun x=>f ?iH,h.prod,s.1 j (?iJ),(sv:Option V),Same H0 H,spot<l,?bO f i j x ?f7,S j (u j),(?e M),(N:?bZ),if x=y then f' x else 0,Vt n r kt,Al (fun u=>?fU*P u c) n,?k hne,qa3.mp,(?tY+1),?EU u,∀j,j<r->t j<w,Lat.beside,β+i*?c6,i*D<=?U,D<=?Z,?w5 i c ?f,x.same _ _ e,U m M l r,(?dZ).1,R1 r c,?k6+f n,fun y a=>R y ?V,β-?bA,Lat.Mat->?u9,.(fun M' e=>by cases e),?D5 (fun k=>?gR*?e7),?k (?CI hne),?EQ H' f,fun r x=>?_,Int.dvd_zero,.(by obtain⟨dx,fs,h1,h2⟩:=x.ob;obtain⟨as,a1,a2⟩:=x.rw;obtain⟨bs,b1,b2⟩:=x.bk),.(by have t2:?cQ t i ?aX i=kt i:=?vC),∀(hd:∀x y,x<k->y<k->?CE (P' x) (Q' y)=?oK),a,∀(H:?vU)(h:?xH),a,∀{p L R nm:Addr}{n w:Nat}{M:?hS}{l r:?u},a,.(by obtain⟨tv,dx,fs,hp,l1,l2,l3,l4,l5,l6,l7,_⟩:=x.ob),∀{i:Nat}{T:Mat}(h:∀r c,r<i->r<c->T r c=0)(s:?m),a,∀(hq:∀k,k<i->(K3 R t i k).natAbs<?t)(hi:i<n),a,∀{C:?R}{R:Mat}(h:Q4 n C δ b R),a,∀{x:?M}(h:?C9 β x),a,.(by rw[?qM]),∀(x:?w0),a,∀(A B r1 x1 y1 r2 x2 y2:Int),a,∀(spot i:Nat)(A B g a b:Int),a,.(by exact ?iR),∀(tp nm r1 D1 D2 b2:Addr),a,∀{A P PB Q QB P' Q':Mat},a,∀(K:?yK),a,∀(hA:0<A)(hB:B≠0),a,∀(hc:?gN m m f),a,∀(hij:i<j)(hj:j<m),a,hh d ?c j ?c,?CK cnt s',Part R t ?q i,tr R x c,?D5 (fun a=>P x a*V a i),h.step h2,?i7 j h1 O9m,MH n w A Q R,?D3 b,if x=x0 then s k else s x,(?mH).2.2,(?CI hj),Int.natAbs_mul_self,?DM ?bP,det i (?mY),?h0 A B g a b,pT n B R a ?H,Classical.choose,Int.mul_le_mul,2 ^ 9000,Pv i zs τ H,LX H CS p r b (?e (?j q)) n W s M,?aH ?a9 i ?S ?g,∀{n:Nat},(∀x,x<n->f x=g x)->?lE=?l g n,fun y=>?_,Ou r ?bP T E,?w5 i _ ?f,b1.same e,?cY s ci (as.eraseIdx i),Classical.choose_spec,?D2 d s,ly.keep s,m=m'/\∀x,x<m->f x=f' x,?CS A i,a≠r/\a≠b/\¬N a,as[i]?=?e c,R1 l ?aL,h.good.restB,hk k O9m O9m,fun j h1 h2=>O9m,hst.zero,?fH j hj,Good n ?n w n ?T PB R RB,det k (F8 (?wS) i),[?j nm,?j r1,?j D1,?j D2,?j b2],x.natAbs*?d0,prodN_congr',zK i t R,J9 f e1 e2,y k l*?gR,?eY<=big,(?h)->(?h)->Int,qi0 _ O9m,(s'.1 i),Lat.ChainTo,fun _ _ _=>rfl,.(by ext a4),?EC (i-r+1),?C9 β ?S,Fh w n r E e ?cM,(Wh A j),?dI i _ (qa0 hi),x2.natAbs<=B.natAbs/\y2.natAbs<=A.natAbs,Q (?j tp) H',∀j,j<r->?i0∣e,h.move hi hs,?DH (?hW) m,?DH (?hW) i,k2 ?q ?f,?C t i ?q (?lB) ?aJ,∀m,m<d->?F8 s m=s,(2*π+1),p<=spot\/p=i,Nat.two_pow_pos,(?oO hi).1,?EN m3,(tab k z),.(by ext BK),?F5 ?cN,.(fun x=>by rw[h.rows,?p]),Ed K H a xs,fun x i=>?q0,Int.lt_or_gt_of_ne,Lat.Bits,fun y x=>M x (?CF 0),i<=a/\a<n,.(by rw[eB];ext e4),Nat->Bool,K3 R ?a9 i k,?EQ H f,t j=?cB/\?aV=?bI,c<w->i<c->?jS=0,Sf ?g*A ?g 0,(f k).natAbs,Fi (a 0) r,fun x=>f (?q5),Hp->Prop,qw5 c β,e0.step (?N),Int.neg_dvd.mpr,MI n w r L m T,qm5 _ gn,fun l hl=>?_,hs9 j O9m,?aH t i ?S ?O,insAt_get,(Wq hs'),y2*r1+-y1*r2,fun k j h1 h2 h3=>?_,Lat.insT,Ep n w T T',det n (F8 (Wh A ?aI) i),H a≠none,Al g ?A,⟨O9m,?_⟩,?D5 (fun j=>g ?aI),congrArg,H b'=none,((?p2) c),Q (?j L) H',fun x hx=>h x ?c,?a1<=?fF,qb5 _ ?bW,fun spot st s' hs hI hB hex=>?_,fun i=>(?hV).getD false,its.toArray.size,?D5 (fun u=>?fU*?mJ),(B i x).natAbs,fun d hd=>?_,Fi (a 0) m,qe2 _ r1p,h.2.2 r c hr hc,MH n w A Q M,.(by rw[E7];exact d),qh0 _ ?c,b<m->f a∣f b,fun c hc=>?_,?EY d ?bK,fun x y=>M x (?CF 0),?CS A' a,∀l,l<i->G ?cH,run d O9m,fun a=>f ?V,2 ^ (c+η),⟨O9m,O9m,?w rfl,fun d h1 h2=>⟨h1,h2⟩⟩,if k=a then 1 else 0,?DD r,Al (?fX) ?fY,∀j,j<i->?EI ?iF L9,?C9 (?oT) (?dZ),?D5 (fun k=>?f9),x.natAbs<?t,?DH V r,J9 f z hne,.(show ?fP-r=(spot-r)+1 by omega),?f0 m i j f,?CE p q,?u->?eL,Lat.Straight,?F2 ?g,fun _ _ _ _=>rfl,Z6 K H H' tp nm r1 D1 D2 b2 n w k f l r,e' j _ ?c (?hF),(tab j z),(β+?dB),?l ?fT i,hs x O9m,Fr n w ?T PB,(?jS).natAbs,(PM ?f),Fr n w ?T B,?CX EuR r2,?nE t i s d,∀l,?oF->l<i->?cR<t l,Ep n w T R,?CJ ?hC ?bS,h.2 b hb O9m,hP i ?iX hi O9m,s.heap.objs.size,Dt n W w i G R0 B0 t π b ?d s.1 s.2,?C9 β s,(f i).natAbs,?EU v,?fR n w m E A P PB Q QB f,LX H CL R r2 b2 ?a3 w w r ?f4,g.pos k hk,ZI n W i t s I,Sf ?aI*A 0 ?aI,?DN ?eX,"starts",?EZ p ?S,?l6<=?U,Eh π b ?g,Nat->?p4,(2*a).log2,Nat->?eL,.(by ext BN),(r-k)*?dH,∀j,?D->j<n->?z4,?gY i ?d ?S,?nR*f (s k),?DN hη,q*(x2*x2),?bO f i j x y,y1.natAbs<=A.natAbs,fdiv_small,?EC ?jE,Fi ?gI ?j7,hM a _ ha (?lU),j.natAbs<L9,(Al (?fX) j+?A0).natAbs,x a u n1 n2 e,(A:Lat.Mat),?EZ i ?gG,J4 n W w i G R0 B0 t π b,B.natAbs<L9,p*f x-q*f i,?EA PB P,Al (fun k=>X l k*U k i) ?iV,i.natAbs<L9,?CH cnt s,(hs c hc),?cY k y xs,(x2*r1)*(-x1*r2),Fi (a ?dB) n,h.st.good.rest,?b5 R i ?d,qq8 c O9m,if ?gU then kY ?d (?vF) else ?vF,Eq.trans,∀a∈?qO,?lS,fun x u=>?fU,?F1 T (P x),?bE m=none,(?z rfl),fun r l=>T r ?cH,?l f' l,Fr n w (?o w R ?bJ) RB,fun c hc=>O9m,x1.natAbs<=B.natAbs,Td H ?f4 a,Hn W u st,?D5 (?gL),q*(y2*y2),hp j O9m,(Lg ?g3),(?F7 ?lO),?c1 R ?d i x y z u,(?D9 (s' y)),?b5 B i ?d,fun q=>z q.symm,Part R t 0 i,?D3 r,(z▸x.mq),fun x y=>M x (s y),putF "backs" b (putF "rows" r []),fun j _ h=>O9m,?d5 i hi hn,xs=[?a6],Same H H1,(?D9 (s y)),BB n ?n ?hI ?cE (β+?eZ) s,(zs++[y]),(M r c).natAbs<=?n2,t1 j ?c,?l (?oG) m,(h n O9m),∀j,j<n->?aV<=D,(qh1 ?d8),?yI<=?tY,AF LM hs,y.natAbs*?d0,fun c=>1*P i c+1*P j c,Dt n W w i G R0 B0 t π b ?d R B,?l ?f2 r,Vb n w T ?i5,Sf j*A 0 j,∀j,j<i->G ?H,Qi c η r d,det k (Up (?wB) f (?A8) m ?cZ 0),Al (fun a=>?iU*?fJ) n',?CQ ?n R,Int.le_refl,c<w->?hA,xs.map g,Int.mul_neg_of_neg_of_pos,?DU H' N,Int.ediv_nonneg,?D5 (fun k=>(x k-?k4)*?h6),Nat->(?m)->?eL,?EY ?O ?m8,⟨fun i t s hi hJ=>?_⟩,(h a z).elim,.(by rw[HT.sIx_nat];omega),∀spot,?aK->Dt n W w i G R B t π b ?d R B,Nat->?M,e.natAbs.log2<=L,fun a=>a=nm,Vb n w T Nc,Int.mul_neg_of_pos_of_neg,R1 ?L ?aL,?E2 i (?AP)/\BB n ?n ?hI ?cE (?g0+?vM) s/\?u0,.(by rw[h.a.e1,h.a.e2];grind),?D6 H' ?bR,(?A0).natAbs<=2 ^ j*m*?cL,?g0+?AC+(?E7 spot+3),(y2*r1)*(-y1*r2),?gN m i f,unit e l k,k r c hr,Fi ?gI r,?DV n G,?CQ W M,h x y O9m O9m e,fun j hj=>O9m,H r'=none,b1.mono ?iS,⟨⟨_,h⟩,this.1,this.2.1⟩,det n (Wh (F8 A ?g) j),(?nA).natAbs,x m*T m c,r1.fmod r2,∀a∈as,∀o,H a=?dO->H' a=?dO,.(by rw[qg7];grind),(?fL).set,?E4 i c,A.natAbs<L9,a1.same e,?D6 H ?a3,?CR G M,hT i c hi h,h i j hi hj,?bX<=?dX,?uA n w M',Al (fun c=>y c*?j0) w,?dL ?b6 ?e9,Int.eq_of_mul_eq_mul_left,i*(?bY+1),f (s x0),X.calm=true,(?sC).natAbs,∃x y,x<k/\y<k/\x≠y/\r x=r y,bb.1 r x hr hx,Nat->(?m)->?M->Prop,qk4 O9m m0,Qi c η r e,R ?d ?eT,(Tv _ n),(Fin:?k9),?DX h h,Y k d f l r,(as.set i D1).set j D2,?b8 Bool,(F8 A i),?CD H M,(VI k f),(min n w),fun x i=>?xO,.(by rw[Int.neg_fmod_neg];omega),Sf i*A i 0,h.st.st.red,fun j c h1 h2 h3=>?_,?rE k k f,⟨dx,fs,e _ _ h1,h2⟩,B j a*?aV,(R p ?aL).natAbs<=μ*(R l ?aL).natAbs,?I n n β B,(Z5▸hj),?lE*f n=?l g n*g n,i<=a/\a<i+d,(b4 a ha).2.2,?DD ?A,fun u y=>?oQ,if c<w then T a c else 0,show(-0:Int)=0 from rfl,(p dx:Addr),?EC (spot-r),Int.mul_fdiv_add_fmod,Fr w n (?o n S ?f1) SB,∀j,j<r->0<?i0,fun x=>M x x,H D=none,?DP H',Ot n W w i R B t (?hC) (?bK).1 (?bK).2,jP n w A,s _ _ hp,fun a ha=>?_,(f j).natAbs,?CQ ?n ?T,?cK+?jE*?bA,?DC G,s _ _ ?dQ,(?jZ).natAbs,.(by intro hj;have pj:=P.pos j ?cA hj;have hs:=h j hj;rw[Mq (j:=j+1) ?c fun k h1 h2=>by rw[P.zero k _ ?cA h2 (P.inc j k ?cA ?c h2)];simp]at hs),∀(g:?eQ)(K:?AO)(s:?r2)(st:Dj ?n n R t)(tab:?oR)(ker:∀j,?D->j<n->?sE),a,.(by have:(?bX:Int)<=((?dX:Nat):Int):=by rw[Int.natAbs_of_nonneg ?c];exact_mod_cast q),∀(h:∀l,?oF->l<i->?A1)(hG:∀r c,?f3->r<i->G c->?v7),a,.(by show(?w8).1=_),.(by show(?w8).2=_),.(by obtain⟨tv,dx,fs,hp,l1,l2,l3,l4,l5,l6,l7,hrep⟩:=x.ob;obtain⟨r1,b1,r2,b2,lx,ly,f⟩:=x.li),.(by have e:=iC (w:=w) (n:=n) (f:=f) (g:=?tU) (h:=f) (?k7) (?k7)),∀(hg:∀s:?m,?CT g),a,.(by rw[qb2];obtain⟨r1,r2⟩:=P.red k j ?cA hk hj;exact qf0 (ih k hk O9m) O9m),.(by have e0:zO A B A 1 0 B 0 1:=?tW),∀(hr':?E9 QB' Q') (hc':?gN m' m' f'),a,.(by rcases h with h|⟨hB,e1,e2,e3,e4,e5,e6⟩|⟨hB,e1,e2,e3,e4,e5,e6⟩),.(by rw[Ff (p:=j) (q:=k) ?c hk hne fun c _=>?_,qf3];rw[Bn,Bv hne]),.(by exact ?w (?z ⟨o,?zL⟩)),∀{i:Nat}{T V Z:Mat}(h:∀r c,r<i->c<i->?dM=Al (fun j=>T r j*Z j c) (r+1)),a,∀(hM:∀r c,r<n->c<W->?x7)(hD:Ou n (fun c=>c<W) M D),a,.(by have t1:∀j,j<i->?cQ t i ?aX j=t j:=fun j hj=>?i hj),∀{n w:Nat}{A Q T P:Mat}(h:∀k c,k<n->c<w->?cP=?CE (P k) ?c2),a,.(by exact ?w (?w (?zL))),.(by rw[e0,Wy _ hk,?W (j:=k) ?c fun j hj hne=>?_]),.(by rw[?r,?i (by rw[x.1];exact hi)]at ec;cases ec),.(by rw[?aW,?b7]at e;exact ?yL),∀(hU:∀a b,a<n'->b<w->A' a b=?D5 (fun i=>?fJ*A i b)),a,∀{K:W.Frag}{H H':Hp}{tp nm r1 D1 D2 b2:Addr}{n w k:Nat},a,.(by rw[?jL,?jL]),.(by unfold insS;by_cases z:?gU),.(by rw[Ak (E6 h hn ?aA)];exact h),.(by show _=?mA*?eJ*_;rw[qe6]),∀(h1:?oV)(h2:?oU)(h3:b0<=π)(h4:b0<=b),a,.(by unfold insT;rw[?p,?r]),∀(h:Sa n w r E L m e A T P PB Q QB kl kr hl hr),a,∀(f3:?D7 H0 r2)(f4:?D7 H0 b2),a,∀{i j:Int}(hi:?vZ)(hj:?vP),a,∀{r b:Addr}{H H':Hp}{o:HO}(x:?hU),a,∀(hp:p<n)(hq:q<n)(ne:p≠q){x y z u:Int},a,∀{g a b:Int}(S:?h0 ?fK ?f7 g a b),a,∀(h:?DV i (fun c=>c<W)),a,∀(hs:?c5)(hz:∀c,c<?cR->?hA),a,∀(hz:∀i c,r<=i->i<n->c<w->T' i c=0),a,∀(h:?z1),a,∀(h4:b0<=b)(hβ:b<β)(hβ2:n+b0<β),a,∀(hq:q<n){k:Int}(hk:k.natAbs<?t),a,∀(hη:∀j,?D->j<n->?bI<=?dX),a,∀{a:Addr}{xs:?eU}(h:?s4),a,∀(h:?uZ),a,∀(hE:?l ?fT r<=E),a,∀{n w m E:Nat}{A P PB Q QB:Mat},a,∀(H:?vU),a,∀(dl:?uJ),a,∀(h:?CX EuI r2),a,∀(h:?uN),a,@(BB n W C δ ?a ?b),@(?a fun i c h1 h2 h3=>?b i c h1 h2 h3),@(F0 X (.builtin "any") (fun xs H Q=>∃(p:Addr) (bs:?zO),?x2/\SqL ?a H p (bs.map V.bl)/\Q (.bl (bs.any id)) H)),@(fr _ _ (fun z=>?a ?jB) (fun z=>?b ?gT) e),@(WX K CL CW H0 ?a p L R nm n w ?b l r ns),@(Lb n w A ?a ?b),@(s (if y=0 then y0 else if y=y0 then ?a else y)),@(Rep K ?a v (dT n w ?b)),@(SX CS H0 H p q M n W t ?a ?b),@(fun z=>?a ?aM),@(show ?a=?b by omega),@(SX CS H0 H' p q M n W t ?a ?b),@(H p=?e (?a7 ?a dx ?b)),@(Al (fun k=>x k*?a) ?b),@(Ck n ?n w r ?a ?b M B0 kt hd t s.1 s.2),@(?e (?E ?a)),@(?bE (?a:Str)=?e (?j ?b)),@(Qn n ?a w r kt hd ?b),@(Ck n W w r i ?a ?b B0 kt hd t R B),@(Al (fun b=>?a ?b b*q b) w),@((∀x y,x<k->y<k->?k0)->(∀x,x<k->s x<m)->?a∣ ?nR),@(fun d hd=>(?a d hd).mono ?iS),@(?a A B r2 x2 y2 (?eE) (x1-?bD*x2) (y1-?bD*y2)/\?mQ),@(?a*(?g*(i+1+?b+2))),@(?a A B r1 x1 y1 ?b x2 y2),@(fun x y hx hy=>?a x y O9m O9m),@(Qn w ?c0 n r kr hr (?o n ?a ?b)),@(LX ?a CL R r2 b2 ?bR w w ?b ?f4),@(WX K CL CW H0 H p L R nm n w ?a3 ?a r (Hu m f)),@(Of n i β c t R B ?a ?b),@(H0 ?a=none),@(fun k c hk hc=>?a k c hk (by rw[?b k hk];exact hc)),@(Al ?a n),@(LX ?a CL L r1 b1 ?b n n l ?h2),@(?a ?b=Option.none),@(∀x c,x<w->c<n->?pZ=Lb w n ?f5 (?a x) ?t6),@(fun x y=>?o w A one ?dF ?a),@(Rep K ?a (?j D2) (dT w w fun i j=>r.1 j i)),@(Rep K ?a (?j D1) (dT n n fun i j=>l.2 j i)),@(J4 n W w i ?a R B t π b),@(2 ^ ?a*e.natAbs),@(?qE (show A+1<=-(?N) by omega) ?a O9m O9m),@((?a I1 D1).headD dets ?b (show j<i+1 by omega)),@(det i fun r l=>?a r ?cH),@(?l (fun j=>?a j j) ?b),@(fun a u n1 n2 e=>by rw[Ak ?a];exact ?vR),@(det n (By A p ?a)),@(fun x y hx hy=>by rw[←JO ?a,?b x y ?c ?c]),@(fun a o e=>fr _ _ (Ar e ?a) (Ar e ?b) (?oX)),@(Ck n ?n w r i ?a ?T PB kt hd t s.1 s.2),@(?a j h1 h2),@(show ?a<=?b by omega),@(Q3 K ?a tp nm r1 D1 D2 b2 n w k f l r),@(JL n w r M B0 kt hd π b η β ?a t s),@(Dt n W w i G R0 B0 t π b ?q (?a).1 (?b).2),@((?a O9m).cols (fun k c _ hc=>?dE) ?uC),@(fun j hj=>?a j O9m),@(LX ?a C p r b sv n W s ?b),@(D6 n W w ?a ?b M B0 t R B),@(Ck n W w r ?g G M B0 kt hd ?a R2 B2),@(sx _ _ (E6 ?a hp ?aA) ?b),@(show 0<=-?a by omega),@(fun c hc=>?a i c hi hc),@(by rw[Ak ?a];exact e),@(by have:=?AD ?a ?b;rw[qf7]at this;omega),@(bC n r ?a kt ?b s.1),@(Lat.insS ?a ?d st s'),@(?o w T P ?a ?b),@((?a).natAbs<=?b),@(LX H' CS p ?a ?b (?e (?j q)) n W s' M),@(?cK+(spot-r)*?bA+?a),@(_*(if m<w then T m m else 0)=?a),@(∀a b,a<w->b<w->pT w ?a ?b a b=?d1),@(∀a b,a<n->b<n->pT n ?a ?b a b=?d1),@(fun a ha=>⟨(?a).1,(?b).2.1,?d8⟩),@(Qi ?eI η r ?a),@(qa5 (Nat.log2_self_le O9m) ?a),@(Rep K ?a (?j r1) (dT n n l.1)),@(Rep K ?a (?j b2) (dT w w r.2)),@(?fR ?a w m' E' ?b P' PB' Q' QB' f'),@((if r<?a then ?d6 else ?cX)=_),@((?a).natAbs<?b),@(upd ?a nm (?E (ns'.map ?fQ))),@(show ?a≠?b by omega),@(show ?a+?b=n by omega),@(fun j hj1 hj2=>?a),@(fun d hd=>?dN (?a d O9m) O9m),@(det i (dN T s ?a)),@(det i (EE V Z ?a)),@(TA ?a r as n W ?b),@(QY i j g a b f ?a),@(Ck n ?a w r n G ?b B0 kt hd t R B),@(Al (fun u=>(U ?a u*f u)*W u ?b) m),@(Al (fun b=>Q' y b*QB ?a b) w),@(?v ?eN j i ?jU ?a),@((?oR)/\∀j,?D->j<?a->w<=t j),@(∀d,?eB->?C9 ?fG (?C t ?a ?q ?b d)),@(BB n W C δ (β+?CW ?a Y) (?b)),@(?C t ?a ?q ?b ?aJ),@(Al (fun k=>?a k*?cF) ?b),@(∀x c,x<n->c<w->?a x c=?CE ?b ?c2),@(?aH ?a0 i (?dZ) ?a),@((det k ?a).natAbs=(det k ?b).natAbs),@(H' ?a=?CO ?b),@(Al (fun l=>(RB l a-?fS)*?a) n),@(fun M' e=>?dD ?a (hrep M' e)),@(fun c=>?a),@(?C t ?L ?bB ?a ?b)])
theorem mX:∀{n:Nat}{A:Mat},(∀r c,r<n->c<n->(A r c).natAbs<=1)->(∀c r r',c<n->r<n->r'<n->A r c≠0->A r' c≠0->r=r')->(det n A).natAbs<=1
 | 0,_,_,_=>by simp[det]
 | n+1,A,h1,h2=>by
   show(Al (fun i=>?zV*det n ?zP) ?A).natAbs<=1;by_cases e:∃r,r<n+1/\A r 0≠0
   . obtain⟨r,hr,hne⟩:=e
     rw[?W (j:=r) hr fun k hk hkr=>by
      have:A k 0=0:=qg5 fun z=>hkr (h2 0 k r ?c hk hr z hne);ext bV]
     rw[qb2,qb2,Wt,qf6]
     have ih:=mX (n:=n) (A:=F8 A r) (fun x c hx hc=>h1 _ _ ?fV O9m) fun c x x' hc hx hx' a b=>by
      have:=h2 ?dB (if x<r then x else x+1) (if x'<r then x' else x'+1) O9m ?fV ?fV a b;split at this<;>split at this<;>omega
     exact qa5 (qf0 (h1 r 0 hr O9m) ih) ?bG
   . rw[Bj fun k hk=>by
      have:A k 0=0:=qg5 fun z=>e ⟨k,hk,z⟩;ext bV]
     decide
theorem Wy{n p:Nat}(A:Mat)(hp:p<n)(a:?h)(U:Mat):∀m,?DJ ?wQ=?nH
 | 0=>by
   show det n (By A p fun c=>(0:Int))=0;exact Ti hp fun c _=>Bn ..
 | m+1=>by
   have e:(fun c=>?F0 a ?jW)=fun c=>1*(?wQ) c+?m3:=?eS fun c=>by
    show ?lO+?m3=1*?lO+?m3;omega
   rw[e,Fa A _ _ 1 (a m) hp,Wy A hp a U m];show 1*?nH+a m*?DJ (U m)=?nH+a m*?DJ (U m);rw[qd1]
noncomputable def V9[?e6]:Mat:=fun r l=>if s l=r then 1 else 0
noncomputable def dN(T:Mat)[?e6](k:Nat):Mat:=fun r l=>if r<k then V9 s r l else T r ?cH
theorem kK[?pH]{k:Nat}(hk:k<i):?qA=?eJ*?EO ?J:=by
 have e0:?mY=By (?mY) k fun c=>Al (fun j=>T k j*?h5) ?J:=by
  funext r c
  by_cases z:r=k
  . subst z;rw[Bn];show ?EH r;ext a4;by_cases y:s c<r+1
    . rw[?W (j:=s c) y fun j _ hne=>by
       have:?h5=0:=?p7;ext bV]
      have:V9 s ?jQ c=1:=?r;ext bV
    . rw[Bj fun j hj=>by
       have:?h5=0:=?p;ext bV]
      exact h r ?jQ hk O9m
  . rw[Bv z]
 ext BD
 . congr 1
   refine Cz ?jT;by_cases z:r=k
   . subst z;rw[Bn];show _=if r<r+1 then ?d6 else ?cX
     ext gB
   . rw[Bv z];show(if r<k then ?d6 else ?cX)=if r<k+1 then ?d6 else ?cX
     by_cases y:r<k
     . ext kH
     . ext kG
 . ext B6;show(if j<k then ?h5 else T j ?jQ)=_;ext gB
theorem IK[?pH]:∀k,k<=i->det i (?wF)=?mA*?qA
 | 0,_=>by
   show _=1*?EO 0;rw[qd1]
   exact Cz fun r c hr hc=>by
    show _=if r<0 then ?d6 else ?cX
    ext a4
 | k+1,hk=>by
   rw[IK h s k ?c,kK h s ?c];ext BL
theorem wJ[?pH]:(?nZ).natAbs<=(?uH).natAbs:=by
 rw[IK h s i ?f,qb2]
 have e:(?EO i).natAbs<=1:=by
  have k:∀r c,r<i->dN T s i r c=if s c=r then 1 else 0:=fun r c hr=>by
   show ?EH i;rw[?i hr];rfl
  refine mX (?jT) fun c r r' hc hr hr' a b=>?_
  . rw[?yH];split<;>decide
  . rw[?yH]at a;rw[k r' c hr']at b;split at a
    . split at b
      . omega
      . exact ?aG rfl b
    . exact ?aG rfl a
 exact qa5 (qe2 _ e) O9m
noncomputable def Ou(n:Nat)(G:?R)(M:Mat)(D:Nat):Prop:=∀i,i<=n->∀s:?m,(?tS)->(?DG M).natAbs<=D
theorem D6.detsD[?kB](hi:i<=m){s:?m}(hs:?tS):(?DG R).natAbs<=D:=by
 rw[h.good.det i ?f s];exact hD i hi s hs
theorem D6.headD[?kB](hi:i<=m){j:Nat}(hj:j<i):?cL<=D:=by
 have:=tL ?l7 (?lL hD hi (s:=t) h.pg) hj;have p:=?r1;omega
theorem D6.rowD[?kB](hi:i<=m)[?kO]{r c:Nat}(hr:r<i)(hc:G c):?l6<=i*D:=by
 have:=qX ?l7 ?d3 (In.row hr) (κ:=1) (D:=D) (VM c hc) (?dU) fun k hk=>?lL hD hi ?sQ
 . rw[qf6]at this;ext Q
 . rw[qf6];rcases qm9 r j with z | z | z
   . obtain⟨a,b⟩:=?hQ r j z hj;omega
   . rw[z];ext aE
   . rw[h.st.s0.low hr z];exact ?a2
 . cases l with
   | zero=>exact hc
   | succ l=>exact h.pg _ ?fV
theorem D6.putD[?kB](hm:i<=m)[?aF][?kO]{b0 π b:Nat}(hM:∀c,G c->(M i c).natAbs<=?n2)[?BM]:?AQ:=by
 refine⟨hi,?lZ,?d3,fun j hj=>qa5 (h.headD hD hm hj) h1,fun r c hr hc=>qa5 (h.rowD hD hm VM hr hc) h2,?tO,?sQ⟩
 . rw[?h3 i c ?f];exact qa5 (hM c hc) (Dg h4)
 . rw[?h3 i _ ?f];exact qa5 (hM _ (h.pg l hl)) (Dg h3)
theorem Iq.free{n w r:Nat}{e:Int}{T:Mat}(he:0<e)(h:?jI){m:Nat}(hm:m<=r){x:?h}(hx:∀c,c<w->?j0=0):∀k,k<m->x k=0:=by
 intro l hl;obtain⟨y,hy⟩:=h.cols l O9m;have e1:?z6=0:=Bj fun c hc=>by rw[?nV];simp
 have e2:?z6=?CM ?yG m:=by
  rw[show(fun c=>y c*?j0)=fun c=>?CM (y c*?cP) m from ?eS fun c=>by
   rw[←Bh];exact ?nN]
  rw[D8];refine Ao ?g3;rw[hy k (by have:=h.rn;omega),←Bh]
 rw[e2,?W (j:=l) hl fun k _ hne=>by
  have:?yG=0:=?oN;ext bV]at e1
 have:unit e l l=e:=?r;rw[this]at e1;rcases qq4.mp e1 with z | z
 . exact z
 . omega
theorem qU[?e3]{e:Int}{T M B0 R B:Mat}(he:0<e)(h:?jI)(hM:∀k c,k<n->c<w->M k c=?cP)(hi:i<r)(g:Good n W w ?g M B0 R B)(hW:?mC)(d:Fr n w M B0):∃c,c<w/\?j2≠0:=by
 have rn:=h.rn;refine qg5 ?d8;have z0:∀c,?xR:=fun c hc=>qg5 fun y=>z ⟨c,hc,y⟩;obtain⟨x,hx⟩:=(g.eqv ?g ?f).1 i O9m
 have x0:=h.free he (m:=i+1) O9m (x:=x) fun c hc=>by
  rw[←z0 c hc,?m7];exact Ao fun k hk=>by rw[hM k c ?c hc]
 obtain⟨c,hc,hne⟩:=(g.dual d).row (i:=i) O9m;refine hne ?_;rw[hx ?dP ?c];exact Bj fun k hk=>by rw[x0 k hk];simp
structure Qn(n W w r:Nat)[?kK](M:Mat):Prop where
 zero:∀j c,?D->j<n->c<?cB->M j c=0
 inc:∀j k,?D->j<k->k<n->?cB<kt k
 ge:∀j,?D->j<n->w<=?cB
 lt:∀j,?D->j<n->?cB<W
 head:∀j,?D->j<n->M j ?Y=?bI
 pos:∀j,?D->j<n->0<?bI
 red:∀k j,?D->k<j->j<n->0<=?nA/\?nA<?bI
structure Ck(n W w r i:Nat)(G:?R)(M B0:Mat)[?kK][?F](R B:Mat):Prop where
 st:?gE
 tab:∀j,j<r->j<i->t j<w
 ker:∀j,?D->j<i->?sE
theorem Ck.start(n W w r:Nat)(G:?R)(M B0:Mat)[?kK][?F]:Ck n W w r 0 G M B0 kt hd t M B0:=⟨D6.start ..,?x0,?x0⟩
theorem Ck.next[?e3][?e5]{M B0 R B R1 B1 R2 B2:Mat}[?aN]{Y spot st:Nat}[?BX](hi:i<r)(hst:st<w)(hs:?aK)(I:uF n W w i G R B ?a0 Y R1 B1)(D:Ot n W w i R1 B1 ?a0 0 R2 B2):?DW ?a0:=by
 refine⟨?mT I D,?k8,?qZ⟩;unfold insT;split
 . exact ?q2
 . split
   . exact hst
   . exact ?i7 (j-1) O9m O9m
theorem Ck.skip[?e3][?bT][?aN][?g6](hn:i<n){spot c:Nat}(hs:?c5)(hc:c<=?cR):?hA:=by
 rw[?oW];refine ?cD i c hi hn ?_;have g:=K.ge i hi hn;by_cases z:?f3
 . have:=?i7 ?d z hs;omega
 . have:=(?eX ?d O9m hs).1;have:=?dJ ?d i O9m hs hn;omega
theorem Qa(R:Mat)(i:Nat):?b5 R i i=R:=by
 funext r
 rw[move_row];unfold mvI;by_cases a:r<i
 . rw[?i a]
 . rw[?k a];by_cases b:r=i
   . rw[?i b,b]
   . rw[?k b,?p]
theorem Ck.ins[?e3][?bT][?aN]{π b:Nat}[?g6](H:?AQ)(hG:G ?aX):uF n W w i G R B ?a9 ?dG R B/\?y2:=by
 have all:?y2:=by
  intro spot
  induction spot with
  | zero=>intro _;exact Dt.start H
  | succ s ih=>intro hs;exact(?a8).skip fun c hc=>?lP K hi ?cJ O9m hc
 refine⟨?_,all⟩;have e:R i ?aX=hd i:=by ext pL;exact ?d5 i hi ?cJ
 have p:=?g2 i hi ?cJ;have:=(all i ?f).ins H ?f (st:=kt i) (fun c hc=>by rw[?oW];exact ?cD i c hi ?cJ hc) O9m (K.lt i hi ?cJ) hG ?lW (fun z=>O9m);rw[Qa,Qa,?p,?p]at this;ext Q
theorem Ck.nextK[?e3][?e5]{M B0 R B R2 B2:Mat}[?aN]{Y:Nat}[?g6](hn:i<n)(I:uF n W w i G R B ?a9 Y R B)(D:Ot n W w i R B ?a9 0 R2 B2):?DW ?a9:=by
 ext BA;ext pC
 refine⟨?mT I D,fun j h1 h2=>by rw[?x8];exact ?q2,?k8⟩;rw[D.hd j ?c];by_cases z:j=i
 . rw[z,t2];exact⟨rfl,by ext pL;exact ?x1⟩
 . rw[?x8];exact ?eX j h1 O9m
theorem Ck.done{n W w r:Nat}[?bT][?aN][?pS](h:?ES W M):?CQ W R:=by
 refine⟨?zX,?dJ,K.ge,K.lt,?k8,?g2,?sW⟩
 . rw[←(?v4).1]at h3;exact h.st.st.zero j c h2 h3
 . obtain⟨a,b⟩:=?v4;rw[←a];exact b
 . obtain⟨a,b⟩:=?eX j h1 h3;rw[←a,←b];exact ?zW k j h2 h3
noncomputable def EE(V Z:Mat)(k:Nat):Mat:=fun r l=>if r<k then Z r l else V r l
theorem kZ[?B8]{k:Nat}(hk:k<i):?l5=?eJ*?EP ?J:=by
 have e0:?l5=det i (By (EE V Z k) k fun c=>Al (fun j=>T k j*Z j c) ?J):=Cz fun r c hr hc=>by
  by_cases z:r=k
  . subst z;rw[Bn];show(if r<r then ?e8 else ?dM)=_;ext a4;exact ?iI
  . rw[Bv z]
 ext BD
 . congr 1
   refine Cz ?jT;by_cases z:r=k
   . subst z;rw[Bn];show _=if r<r+1 then ?e8 else ?dM
     ext gB
   . rw[Bv z];show(if r<k then ?e8 else ?dM)=if r<k+1 then ?e8 else ?dM
     by_cases y:r<k
     . ext kH
     . ext kG
 . ext B6;show(if j<k then Z j c else V j c)=_;ext gB
theorem bD[?B8]:∀k,k<=i->det i V=?mA*?l5
 | 0,_=>by
   show _=1*?EP 0;rw[qd1]
   exact Cz fun r c hr hc=>by
    show _=if r<0 then ?e8 else ?dM
    ext a4
 | k+1,hk=>by
   rw[bD h k ?c,kZ h ?c];ext BL
theorem aN{w r:Nat}{U V:Mat}(hw:r<=w)(hU:∀k c,k<r->c<k->?cF=0)(hV:∀l,l<r->In w r U (V l))(h0:∀l i,l<r->i<r->l<i->V l i=0):?DH U r∣ ?u4:=by
 have ch:∀l,∃x:?h,l<r->∀c,c<w->V l c=?CM ?cF r:=fun l=>by
  by_cases hl:l<r
  . obtain⟨x,hx⟩:=hV l hl;exact⟨x,fun _=>hx⟩
  . exact⟨?m6,fun z=>?aG z hl⟩
 obtain⟨X,hX⟩:∃X:?b0,∀l,l<r->∀c,c<w->V l c=Al (fun k=>X l k*?cF) r:=Classical.axiomOfChoice ch;have e1:det r (tr V)=?u4:=Tj (A:=tr V) fun i l hi hl=>h0 l i O9m hi hl;have e2:=bD (i:=r) (T:=tr U) (V:=tr V) (Z:=tr X) (fun i l hi hl=>?_) r ?f
 . rw[e1]at e2;exact⟨_,e2⟩
 . show V l i=_;rw[hX l hl i ?c]
   have:∀m,m<=r-?g->?vY=Al (fun j=>tr U i j*tr X j l) ?g:=by
    intro m
    induction m with
    | zero=>intro _;exact Ao fun k _=>qf7 ..
    | succ m ih =>
      intro hm;show ?vY+X l ?iV*U ?iV i=_;rw[?fC,hU ?iV i ?c ?c];omega
   have:=?x (r-?g) ?f;rw[show i+1+(r-?g)=r by omega]at this;ext Q
theorem Xv[?G]{n:Nat}(h:∀k,k<n->0<f k):∀m,?dV->?bC<=?lE:=fun m hm=>by
 have:∀d,m+d<=n->?bC<=?j8:=by
  intro d
  induction d with
  | zero=>intro _;exact ?xQ _
  | succ d ih =>
    intro hd;refine qu1 (?a8) ?_;show ?j8<=?j8*f ?hO;have p:=Cj (n:=m+d) ?hH;have q:=h ?hO O9m;have:=qm4 (show 1<=f ?hO by omega) (?DO 0 ?j8);rw[qp5]at this;ext Q
 have:=?x (n-m) O9m;rw[?EL m (n-m)]at this;ext Q
theorem OH{w r:Nat}{T:Mat}{E:Nat}(hp:?AF)(h:∀i c,i<r->?sF)[?C3]:?qL:=fun i hi s hs=>by
 have t:=wJ (i:=i) (T:=?hW) (fun a c ha hac=>by
  show(?A9)=0;by_cases z:c<w
  . ext aR;exact h a c O9m z hac
  . ext X) s
 have e:(?nZ)=?DG (?hW):=Cz fun a c ha hc=>(?i ?w1).symm;rw[e];refine qa5 t ?_;by_cases z:i<=w
 . have e2:?rR=?uH:=by
    have:∀m,m<=w->?rQ=?l ?fT m:=by
     intro m
     induction m with
     | zero=>intro _;rfl
     | succ m ih =>
       intro hm;show _*_=_*_;rw[?fC];show ?E8 _;ext gB
    exact ?x i z
   rw[e2];have a:=Xv (n:=r) (f:=?gZ) hp i hi;have b:=Cj (n:=i) (f:=?gZ) fun k hk=>hp k O9m;omega
 . have e2:?rR=0:=by
    have:∀m,w<m->?rQ=0:=by
     intro m
     induction m with
     | zero=>intro _;omega
     | succ m ih =>
       intro hm;show ?E8 0;by_cases y:w<m
       . rw[ih y];simp
       . ext a4;simp
    exact ?x i O9m
   rw[e2];exact ?a2
structure Fh(n w r:Nat)(E:Nat)(e:Int)(T:Mat):Prop where
 sq:?jI
 low:∀i c,i<n->?sF
 pos:?AF
 dvd:?rO
 prod:?l ?fT r<=E
 le:∀i c,i<n->c<w->0<=?jS/\?jS<=e
 red:∀k j,k<j->j<r->0<=T j k/\T j k<?i0
theorem EN[?gA]{T:Mat}{u:?m}(he:0<e)(sq:?jI)(hst:Dj n r (tr T) u)(hu:∀j,j<r->u j=j)(hd:?rO)[?C3]:?eQ:=by
 refine⟨sq,fun i c hi hc hic=>?_,?dU,hd,hE,fun i c hi hc=>KJ he sq.flip hst hu hd hc hi,fun k j hk hj=>by
  have:=hst.red k j hk hj;rw[hu j hj]at this;ext Q⟩
 . by_cases z:c<r
   . exact ?r0 c i z (by rw[hu c z];exact hic)
   . exact sq.col0 i c hi O9m hc
 . have:=?mF;rw[hu j hj]at this;ext Q
theorem Ep.going[?gA]{T T':Mat}(s:?sY)(he:0<e)[?e2]:Fh w n r E e (tr T'):=by
 obtain⟨sq,t,hst,ht,hd⟩:=s.square he h.sq;have pos:∀j,j<r->0<T' j j:=fun j hj=>by have:=?mF;rw[ht j hj]at this;ext Q
 refine EN he sq.flip hst ht hd ?_;have rn:=h.sq.rn;have rw':=h.sq.rw;have d:=aN (w:=w) (r:=r) (U:=T') (V:=T) rw' (?D4 ?r0 ht) (fun l hl=>(s.bwd l O9m).sub rn sq.row0) (fun l i hl hi hli=>h.low l i O9m O9m hli);have p:=Cj (n:=r) (f:=?gZ) ?aB;exact qu1 (ql0 p d) ?oB
theorem Vb.going[?gA]{T Nc:Mat}(s:?y6)(he:0<e)[?e2]:Fh n w r E e Nc:=by
 obtain⟨T',s1,s2⟩:=s;exact s2.going he (s1.going he h)
theorem Vb.first{n w r:Nat}{E:Nat}{T T' Nc:Mat}[?s](hr:?bL)(hst:Dj w r T' t)[?BW](s2:Ep w n (tr T') (tr Nc))(hE:?mX<=E):Fh n w r E (?mX) Nc:=by
 obtain⟨hw,sq,u,hu,YH,hd⟩:=Vb.square (T:=T) hr hst hz s2;have he:0<?mX:=Cj fun j hj=>?mF;refine EN he sq hu YH hd ?_;have d:=aN (w:=n) (r:=r) (U:=tr Nc) (V:=fun l i=>T' i ?aL) hr (?D4 hu.zero YH) (fun l hl=>(s2.bwd ?aL (hst.lt l hl)).sub hw sq.flip.row0) (fun l i hl hi hli=>hst.s0.low hi hli);exact qu1 (ql0 he d) hE
theorem Fh.dets[?gA]{T:Mat}[?e2]:?qL:=OH ?aB (fun i c hi=>h.low i c (by have:=h.sq.rn;omega)) ?oB
noncomputable def MI(n w r L m:Nat)(T:Mat):Prop:=?fO\/(∃k,k<=r/\Ng n w k T/\?vD<=m)\/(∃k,k<r/\JQ n w k T/\(r-k-1)*?dH+(?eJ).natAbs.log2+1<=m)
theorem Fh.straight[?gA]{T:Mat}[?e2](c:Ng n w r T):?fO:=fun i j hi hj hne=>by
 by_cases z:i<r
 . exact c.2.2.2.1 i j z hj (fun y=>hne y.symm)
 . exact h.sq.row0 i j O9m hi hj
theorem log2_lt{a b:Nat}(ha:0<a)(h:a∣b)(hlt:a<b):a.log2<b.log2:=by
 obtain⟨k,hk⟩:=h
 have k2:2<=k:=by
  rcases k with _ | _ | k
  . omega
  . omega
  . omega
 have b2:2*a<=b:=by
  rw[hk,Nat.mul_comm 2 a];exact qe2 _ k2
 have e:?vA=a.log2+1:=Nat.log2_two_mul O9m
 have m:?vA<=b.log2:=by
  rw[Nat.le_log2 ?c];exact ?ED b2
 omega
theorem MI.start{n w r L:Nat}{E:Nat}{e:Int}{T:Mat}[?e2]:MI n w r L (r*?dH) T:=?z (?w ⟨0,?a2,⟨?a2,?a2,?yM,fun j c hj=>O9m,fun i j _ hj=>O9m⟩,by rw[qw2];ext aE⟩)
theorem Fh.next{n w r L m:Nat}{E:Nat}{e:Int}{T Nc:Mat}(he:0<e)(hL:?y4)[?e2](s:?y6)(f:?sO)(ns:¬?fO):0<m/\MI n w r L (m-1) Nc:=by
 have g:=s.going he h;rcases f with f|⟨k,hk,c,hm⟩|⟨k,hk,c,hm⟩
 . exact ?aG f ns
 . have kr:k<r:=by
    refine Nat.lt_of_le_of_ne hk fun z=>ns ?_;subst z;exact h.straight c
   have e1:?vD=(r-k-1)*?dH+?dH:=by rw[show r-k=(r-k-1)+1 by omega,qf8,qf6,Nat.add_sub_cancel]
   refine ?t2;obtain⟨c2,q⟩:=s.next c;rcases q with q | q
   . exact ?w q
   . refine ?z (?z ⟨k,kr,q,?_⟩);have d:=h.dvd k kr;have d2:=g.dvd k kr;have p:=g.pos k kr
     have l:(Nc k k).natAbs.log2<=L:=by
      refine qa5 ?_ hL;rw[Nat.le_log2 ?c];refine ?ED ?_;have:=ql0 he d2;omega
     omega
 . refine ?t2;rcases s.less c with q|⟨q1,q2,q3⟩
   . refine ?z (?w ⟨k+1,O9m,q,?_⟩);rw[show r-?J=r-k-1 by omega];omega
   . refine ?z (?z ⟨k,hk,q1,?_⟩);have p:=?v1;have p0:=?aB k hk;have:=log2_lt (a:=(Nc k k).natAbs) (b:=?n3) O9m (qu0.mpr q2) O9m;omega
universe Lat
namespace Lat
structure zO[?pN]:Prop where
 e1:r1=x1*A+y1*B
 e2:r2=x2*A+y2*B
 dt:?fD=1\/?fD=-1
 dv:∀d:Int,d∣r1->d∣r2->d∣A/\d∣B
structure EuR[?pN]:Prop where
 a:?lD
 rr:0<=r1*r2
 r0:?mK
 xx:x1*x2<=0
 yy:y1*y2<=0
 lx:?wJ
 ly:?vK
theorem IM{u v:Int}(h:0<=u*v):(u+v).natAbs=u.natAbs+v.natAbs:=by
 rcases Int.lt_trichotomy u 0 with z | z | z
 . have:v<=0:=by
    ext cS;have:=?xT z y;omega
   omega
 . subst z;omega
 . have:0<=v:=by
    ext cS;have:=?y7 z y;omega
   omega
theorem EuR.next_le[?g7][?C8]:?rM:=by
 have r1p:1<=r1.natAbs:=by have:=h.r0;omega
 have hA:A.natAbs=(?sV).natAbs:=by
  have e:(?fD)*A=?sV:=?yA
  rcases h.a.dt with d | d
  . rw[d,qd1]at e;rw[e]
  . rw[d]at e;have:A.natAbs=(-1*A).natAbs:=O9m
    rw[this,e]
 have hB:B.natAbs=(?lQ).natAbs:=by
  have e:(?fD)*B=-(?lQ):=?yA
  rcases h.a.dt with d | d
  . rw[d,qd1]at e;rw[e,qc7]
  . rw[d]at e;have:B=?lQ:=O9m
    rw[this]
 have k1:0<=?yE:=by
  have:?yE=(-(y1*y2))*(r1*r2):=?B
  rw[this];exact qk4 (by have:=h.yy;omega) h.rr
 have k2:0<=?w3:=by
  have:?w3=(-(x1*x2))*(r1*r2):=?B
  rw[this];exact qk4 (by have:=h.xx;omega) h.rr
 rw[IM k1,qb2]at hA;rw[IM k2,qb2]at hB;have a1:x2.natAbs*1<=x2.natAbs*r1.natAbs:=?tI;have a2:y2.natAbs*1<=y2.natAbs*r1.natAbs:=?tI;omega
theorem zO.step[?g7](h:?lD)(q:Int):zO A B r2 x2 y2 (r1-q*r2) (x1-q*x2) (y1-q*y2):=by
 refine⟨h.e2,?_,?_,fun d h1 h2=>h.dv d ?_ h1⟩
 . rw[h.e1,h.e2];grind
 . have:x2*(y1-q*y2)-(x1-q*x2)*y2=-(?fD):=?B
   rw[this];rcases h.dt with z | z<;>rw[z]<;>omega
 . have:=?kZ h2 (qs3 (a:=d) (b:=q) h1);have e:r1-q*r2+q*r2=r1:=O9m
   rw[e]at this;ext Q
theorem aQ{r1 r2:Int}(h:0<=r1*r2)(h2:?lV):0<=?bD/\?mQ/\0<=r2*(?eE):=by
 have e:?eE=?yT:=?E1 r1 r2
 rw[e];rcases ?s6 h2 with z | z
 . have r1n:r1<=0:=by
    ext cS;have:=?y7 y z;omega
   have q:?bD=(-r1).fdiv (-r2):=by rw[Int.neg_fdiv_neg]
   have m:?yT=-((-r1).fmod (-r2)):=?zU
   have m0:=qt2 (a:=-r1) (b:=-r2) O9m;have m1:=qv4 (-r1) (b:=-r2) O9m;refine⟨?_,O9m,?_⟩
   . rw[q,?tM];exact ?xV O9m O9m
   . rw[m];have:r2*-((-r1).fmod (-r2))=(-r2)*(-r1).fmod (-r2):=by rw[Int.mul_neg,qo3]
     rw[this];exact ?zG
 . have r1p:0<=r1:=by
    ext cS;have:=?xT y z;omega
   have m0:=qt2 (a:=r1) (b:=r2) z;have m1:=qv4 r1 z;refine⟨?_,O9m,?zG⟩;rw[?tM];exact ?xV r1p O9m
theorem EuR.step[?g7][?C8](h2:?lV):?CV EuR:=by
 obtain⟨q0,q1,q2⟩:=aQ h.rr h2;obtain⟨l1,l2⟩:=h.next_le;generalize ?bD=q at *;refine⟨⟨h.a.step q,q2,h2,?_,?_,l1,l2⟩,q1⟩
 . have:x2*(x1-q*x2)=x1*x2-?vI:=?B
   rw[this];have a:=h.xx;have b:0<=?vI:=qk4 q0 (by rw[←?q8 (a:=x2)];omega);omega
 . have:y2*(y1-q*y2)=y1*y2-?wN:=?B
   rw[this];have a:=h.yy;have b:0<=?wN:=qk4 q0 (by rw[←?q8 (a:=y2)];omega);omega
noncomputable def EuI[?pN]:Prop :=
 ?uN\/(B<0/\r1=A/\x1=1/\y1=0/\r2=B/\x2=0/\y2=1) ∨
 (B<0/\r1=B/\x1=0/\y1=1/\r2=?jY/\x2=1/\y2=-(?N))
theorem EuI.start{A B:Int}[?pT]:EuI A B A 1 0 B 0 1:=by
 rcases ?s6 hB with z | z
 . exact ?z (?w ⟨z,rfl,rfl,rfl,rfl,rfl,rfl⟩)
 . refine ?w ⟨?tW,qk4 O9m O9m,O9m,O9m,O9m,O9m,O9m⟩
theorem Pt{A B:Int}(hA:0<A)(hB:B<0):?N<=-1/\-A<=?N/\?jY<=0/\?EI ?jY B.natAbs:=by
 have e:?jY=A.fmod B:=?E1 A B
 have m:A.fmod B=-((-A).fmod (-B)):=?zU
 have m0:=qt2 (a:=-A) (b:=-B) O9m;have m1:=qv4 (-A) (b:=-B) O9m;have k:?N*B=A-A.fmod B:=O9m
 rw[e]
 have q1:?N<=-1:=by
  ext cS;have:=qk4 (?DO 0 ?N) (?DY B);rw[Int.mul_neg]at this;omega
 refine⟨q1,?_,O9m,O9m⟩;ext cS;have h:=?DE (show 1<=-B by omega);have h2:-(?N)*-B=?N*B:=by rw[Int.neg_mul_neg]
 rw[h2]at h;have h3:=?DE (?xQ (-B));rw[h2,Int.add_mul]at h3;have h4:A*1<=A*-B:=qm4 O9m O9m;omega
theorem EuI.step[?g7](hA:0<A)[?C7](h2:?lV) :
 ?CV EuI:=by
 ext B5
 . exact⟨?w (?q1).1,(?q1).2⟩
 . subst e1 e2 e3 e4 e5 e6;obtain⟨_,_,_,q⟩:=?nX;exact⟨?z (?z ⟨hB,rfl,rfl,rfl,rfl,O9m,O9m⟩),q⟩
 . obtain⟨q1,q2,q3,q4⟩:=?nX;ext B3
   have e7:=?sM;rw[←e4]at e7 q3 q4
   have rr:0<=B*r2:=by
    have:=qk4 (?DY B) (?DY r2);rw[Int.neg_mul_neg]at this;ext Q
   obtain⟨p0,p1,p2⟩:=aQ rr h2
   have p3:1<=?nG:=by
    ext cS;have:?nG=0:=O9m
    rw[this]at p1;omega
   have f1:?hT-?N*0=x2:=O9m
   have f2:(0:Int)-?N*1=y2:=O9m
   rw[f1,f2]at e7;have e8:=e7.step (?nG);subst e1 e2 e3;refine⟨?w ⟨e8,p2,h2,?_,?_,O9m,O9m⟩,p1⟩
   . subst e5;omega
   . generalize ?bD=p at *;have g1:y2*(1-p*y2)=-((p*y2-1)*y2):=?B
     rw[g1];have g2:1*y2<=p*y2:=qj7 p3 O9m;have:=qk4 (show 0<=p*y2-1 by omega) (?DO 0 y2);omega
theorem EuI.all[?g7][?pT][?C7] :
 ?lD/\?mK/\?wJ/\?vK/\?rM:=by
 ext B3
 ext B5
 . exact⟨h.a,h.r0,h.lx,h.ly,h.next_le.1,h.next_le.2⟩
 . subst e1 e2 e3 e4 e5 e6;exact⟨e0,O9m,O9m,O9m,O9m,O9m⟩
 . obtain⟨q1,q2,q3,q4⟩:=?nX;have e7:=?sM;have f1:?hT-?N*0=x2:=O9m
   have f2:(0:Int)-?N*1=y2:=O9m
   rw[f1,f2,←e4]at e7;subst e1 e2 e3;exact⟨e7,O9m,O9m,O9m,O9m,O9m⟩
structure Shares(A B g a b:Int):Prop where
 pos:0<g
 e:g=a*A+b*B
 dA:g∣A
 dB:g∣B
 la:a.natAbs<=B.natAbs
 lb:b.natAbs<=A.natAbs
theorem EuI.last{A B r1 x1 y1 x2 y2:Int}[?pT](h:?CX EuI 0) :
 (0<r1->?h0 A B r1 x1 y1)/\(r1<0->?h0 A B (-r1) (-x1) (-y1))/\?mK:=by
 obtain⟨k,r0,a1,a2,_,_⟩:=h.all hA hB;obtain⟨d1,d2⟩:=k.dv r1 (Int.dvd_refl _) (?pA _);refine⟨fun p=>⟨p,k.e1,d1,d2,a1,a2⟩,fun p=>⟨O9m,?_,?sN d1,?sN d2,O9m,O9m⟩,r0⟩;rw[k.e1,qo3,qo3];omega
theorem Shares.blend{A B g a b:Int}{π:Nat}(hA:0<A)(h:?qB)(lA:A.natAbs<=?Z)(lB:B.natAbs<=?Z):JX π A B a b (-(B / g)) (?c8):=by
 obtain⟨p,eA⟩:=h.dA;obtain⟨q,eB⟩:=h.dB;have g0:g≠0:=?kU
 have k1:?c8=p:=?lJ
 have k2:B / g=q:=?sA
 have gn:1<=g.natAbs:=?kU
 have n1:p.natAbs<=A.natAbs:=by rw[eA,qb2];exact ?sP
 have n2:q.natAbs<=B.natAbs:=by rw[eB,qb2];exact ?sP
 rw[k1,k2];refine⟨?_,by have:=h.pos;have:=h.e;omega,?_,qa5 h.la lB,qa5 h.lb lA,O9m,O9m⟩
 . have e:=h.e
   have:g*(a*p-b*-q)=g*1:=by
    rw[qp5];refine ?w9 ?_ ?jP;rw[eA,eB]
    grind
   exact ?z8 g0 ?x
 . rw[eA,eB]
   grind
universe Lat
namespace Lat
open Hb
noncomputable def Q4(n:Nat)(C:?R)(δ b:Nat)(R:Mat):Prop:=∀r c,r<n->C c->?l6*?d0<?U
theorem Qf{x y a k:Int}{δ b c:Nat}(hx:?r5<?U)(hy:?xF<?U)(ha:a.natAbs<=?t)(hk:k.natAbs<=?t):(a*x+k*y).natAbs*?d0<2 ^ (b+c+1):=by
 have e:=qf4 (a*x) (k*y);rw[qb2,qb2]at e;have e2:=qb5 (?d0) e;rw[qf8,Nat.mul_assoc,Nat.mul_assoc]at e2;have p:0<?t:=?rX c;have u:a.natAbs*(?r5)<?t*?U:=qc0 (qb5 _ ha) (qq7 hx p);have v:k.natAbs*(?xF)<?t*?U:=qc0 (qb5 _ hk) (qq7 hy p);rw[show b+c+1=(c+b)+1 by omega,qg7,qd8];omega
theorem Q4.mono{n δ b b':Nat}[?pJ](hb:b<=b'):Q4 n C δ b' R:=fun r c hr hc=>qb4 (?iI) (qe7 ?bG hb)
theorem Q4.add{n δ b c p q:Nat}[?pJ][?BZ]:Q4 n C δ (b+c+1) (?v R p q k):=fun r x hr hx=>by
 by_cases e:r=p
 . subst e;rw[Cp];exact Qf (h r x hr hx) (h q x hq hx) (show 1<=?t from qk7) (qd4 hk)
 . rw[Dd e];exact(h.mono O9m) r x hr hx
theorem Q4.blend{n δ b e p q:Nat}[?pJ][?BS](hx:x.natAbs<?iP)(hy:y.natAbs<?iP)(hz:z.natAbs<?iP)(hu:u.natAbs<?iP):Q4 n C δ (b+e+1) (?c1 R p q x y z u):=fun r c hr hc=>by
 by_cases e1:r=p
 . subst e1;rw[Gi ne];exact Qf (?iI) (h q c hq hc) (qd4 hx) (qd4 hy)
 . by_cases e2:r=q
   . subst e2;rw[Ja];exact Qf (h p c hp hc) (?iI) (qd4 hz) (qd4 hu)
   . rw[Ec e1 e2];exact(h.mono O9m) r c hr hc
variable[?b1]
noncomputable def BB[?b2](C:?R)(δ β:Nat)[?bU]:Prop:=?I n W β s.1/\?I n n β s.2/\Q4 n C δ β s.1
theorem BB.mono{n W β β':Nat}[?aD][?kN](hb:β<=β'):?C9 β' s:=⟨h.1.mono hb,h.2.1.mono hb,h.2.2.mono hb⟩
noncomputable def addS(p q:Nat)(k:Int)[?bU]:?M:=(?v s.1 p q k,?v s.2 q p (-k))
noncomputable def blendS(p q:Nat)(x y z u:Int)[?bU]:?M:=(?c1 s.1 p q x y z u,?c1 s.2 p q u (-z) (-y) x)
theorem BB.add{n W β c p q:Nat}[?aD][?kN](hp:p<n)[?BZ]:?C9 ?uG (?cO p q k s) :=
 ⟨(h.1.add hp hq hk).mono O9m,(h.2.1.add hq hp (k:=-k) (by rw[qc7];exact hk)).mono O9m,(h.2.2.add hq hk).mono O9m⟩
theorem BB.blend{n W β c p q:Nat}[?aD][?kN][?BS](hx:?u3)(hy:y.natAbs<?t)(hz:z.natAbs<?t)(hu:u.natAbs<?t):?C9 ?uG (blendS p q x y z u s) :=
 ⟨(h.1.blend hp hq ne hx hy hz hu).mono O9m,(h.2.1.blend hp hq ne (x:=u) (y:=-z) (z:=-y) (u:=x) hu (by rw[qc7];exact hz) (by rw[qc7];exact hy) hx).mono O9m,(h.2.2.blend hp hq ne hx hy hz hu).mono O9m⟩
noncomputable def shrS[?F](p f:Nat)[?bU]:?y3
 | 0=>s
 | d+1=>?cO p ?b6 (-((?l4).1 p ?e9 / (?l4).1 ?b6 ?e9)) (?l4)
theorem IS{n W w lo:Nat}[?bF][?s]{p f m μ β c:Nat}(P:Part R t f m)(h:∀l,f<=l->l<m->?A1)(hp:p<lo)(hm:m<=lo)(hn:lo<=n)(hpf:p<f\/m<=p)(hc:2 ^ (m-f)*μ<?t)(b:?rI) :
 ∀d,f+d<=m->MN n W w lo R B t p f m ?b6 μ ?dL (?gV).2/\?C9 (β+d*?dB) (?gV)/\∀l c,l≠p->?dL l c=?cN:=by
 intro d
 induction d with
 | zero=>intro _;exact⟨MN.start h,b.mono O9m,?rF⟩
 | succ d ih =>
   intro hd;obtain⟨i1,i2,i3⟩:=?a8;obtain⟨q1,q2⟩:=i1.step P O9m (show f+d<m by omega) hp hm hn hpf;have e:?z7=R ?b6 ?e9:=i3 _ _ O9m
   have qb:(-(?dL p ?e9 / ?z7)).natAbs<?t:=by
    rw[qc7,e];refine qc0 q1 (qc0 ?_ hc);exact ?tA
   refine⟨?_,(i2.add O9m O9m qb).mono (by rw[qf8];omega),fun l c hl=>?_⟩
   . show MN n W w lo R B t p f m (f+d+1) μ (?v ?dL p ?b6 _) (?v (?gV).2 ?b6 p _);rw[e,qo2];exact q2
   . show ?v ?dL p ?b6 _ l c=_;rw[Dd hl];exact i3 l c hl
theorem MV[?g9][?bF][?s]{b p spot μ:Nat}(P:?pY)[?AW](hn:i<n)(hp:?rW) :
 ∀d,?eB->v6 n W w i G R B t b p ?d μ ?c3 ?m0 (?gK).2:=by
 intro d
 induction d with
 | zero=>intro _;exact v6.start h
 | succ d ih =>
   intro hd;have i1:=?a8;obtain⟨q1,q2⟩:=i1.step P hG O9m (show ?jJ<i by omega) hn hp;have e:?m0 ?c3 (t ?c3)=R ?c3 (t ?c3):=i1.s.same _ _ O9m;show v6 n W w i G R B t b p ?d μ (?jJ+1) (?v ?m0 p ?c3 _) (?v (?gK).2 ?c3 p _);rw[e,qo2];exact q2
theorem Q9[?g9][?bF][?s]{b p spot μ β c:Nat}(P:?pY)(inc:?uP)[?AW](hs:?c5)(hn:i<n)(hp:?rW)(hc:?c7*μ<?t)[?cT] :
 Z3 n W w i G R B t b p ?d μ (?v6).1 (?v6).2/\∀d,?eB->?C9 (β+i*?dB) (?gK):=by
 have r:=MV (W:=W) (w:=w) (B:=B) (b:=b) P h hG hn hp ?aJ O9m;rw[show ?fP+?aJ=i by omega]at r;refine⟨r.done inc,?tG⟩;have:=(IS (W:=W) (w:=w) (lo:=i+1) (B:=B) P (fun l h1 h2=>h l O9m h2) O9m O9m O9m O9m (c:=c) (qc0 (?tA) hc) bb d hd).2.1;refine this.mono ?_;have:=qb5 ?dB (?DO d i);omega
universe Lat
namespace Lat
open Hb
variable[?b1]
noncomputable abbrev cS(π i:Nat):Nat:=i+2*π+2
noncomputable abbrev cM(π i:Nat):Nat:=π+2+2*(?z9)
theorem AG{x π:Nat}(h:x<=?Z):x<2 ^ (π+1):=by
 have:1<=?Z:=qk7;rw[qg7];omega
theorem PM{π i μ:Nat}(h:μ<=?d7):?c7*μ<2 ^ ?bY:=by
 have e:2 ^ ?bY=2*(?c7*?d7):=by
  rw[show ?bY=1+(i+?rV) by unfold cS;omega,qd8,qd8,Nat.pow_one]
 rw[e];have a:=qe2 (?c7) h;have b:1<=?c7*?d7:=by rw[←qd8];exact qk7
 omega
variable[?g9]{R0 B0 R B:Mat}[?s]{π b spot β:Nat}
theorem Dt.partOf[?pE]{R1:Mat}(e:∀r c,?f3->r<i->?p0=R r c) :
 Part R1 t ?q i/\(?uP)/\∀r c,?f3->r<i->G c->?E5 ?p0 ?U:=by
 have k:∀r c,?f3->r<i->?p0=R0 r c:=fun r c h1 h2=>(e r c h1 h2).trans (?eP r c O9m h2);refine⟨(H.part.sub ?cA).congr fun j c h1 h2=>k j c O9m h2,fun l h1 h2=>H.part.inc ?d l ?cA h1 h2,fun r c h1 h2 hc=>?_⟩;rw[k r c h1 h2];exact H.rw r c h2 hc
theorem Dt.meetAdd[?pE][?BV]{q:Int}(he:R i ?eT=q*?zI)[?cT] :
 ?DR ?vT ?vT ∧
 ?C9 ?fG ?gG/\?EX i ?gG:=by
 have hn:=H.hi
 have hq:q.natAbs<=?Z:=by
  have a:=h.pv ?d ?f hs;have p:=?aB ?d hs;rw[he,qb2]at a;exact qa5 ?hR a
 have b1:?C9 (?eW) ?gG:=bb.add hn O9m (c:=π+1) (by rw[qc7];exact AG hq);obtain⟨P,inc,hG⟩:=?l2 H (R1:=?v R i ?d (-q)) fun r c h1 h2=>Dd O9m c;obtain⟨S,bs⟩:=Q9 (n:=n) (W:=W) (w:=w) (G:=G) (B:=(?nQ).2) (p:=i) (μ:=2 ^ (π+1)) (β:=?eW) (c:=?bY) P inc (h.addPre H hs hq) hG hs hn ?wE (PM ?bW) b1;refine⟨h.metAdd H hs hq hz he ?_,?yO,?CU bs⟩;have e:(?nQ).2=?v B ?d i q:=by show ?v B ?d i (- -q)=_;rw[qo2]
 rw[←e];exact S
theorem Dt.meetBlend[?pE][?BV]{x y z u:Int}(e:JX π (?zI) (R i ?eT) x y z u)[?cT] :
 ?DR ?rT ?rT ∧
 ?C9 ?fG ?j3/\(?EX ?d ?j3) ∧
 ?EX i (?lB):=by
 have hn:=H.hi;have ne:spot≠i:=O9m
 have b1:?C9 (?eW) ?j3:=bb.blend O9m hn ne (c:=π+1) (AG e.lx) (AG e.ly) (AG e.lz) (AG e.lu);obtain⟨p1,p2⟩:=h.blendPre H hs e;obtain⟨P,inc,hG⟩:=?l2 H (R1:=?wR) fun r c h1 h2=>Ec O9m O9m _ _ _ _ c;obtain⟨S1,bs1⟩:=Q9 (n:=n) (W:=W) (w:=w) (G:=G) (B:=(?o9).2) (p:=spot) (μ:=?d7) (β:=?eW) (c:=?bY) P inc p1 hG hs hn (?w ?f) ?uL b1;have b2:=bs1 ?aJ O9m;generalize hs2:?lB=s2 at *;have A60:?EZ ?d (?wR,(?o9).2)=s2:=hs2;rw[A60]at S1 b2;obtain⟨P2,A42,hG2⟩:=?l2 H (R1:=?d4) fun r c h1 h2=>by rw[?nJ r c ?c,Ec ?c ?c]
 have p3:∀l,?oF->l<i->(?d4 i ?aL).natAbs<=?d7*(?d4 l ?aL).natAbs:=fun l h1 h2=>by
  rw[?nJ i _ (?iQ),?nJ l _ ?c];exact p2 l h1 h2
 obtain⟨S2,bs2⟩:=Q9 (n:=n) (W:=W) (w:=w) (G:=G) (R:=?d4) (B:=s2.2) (p:=i) (μ:=?d7) (β:=?eW+?z9) (c:=?bY) P2 A42 p3 hG2 hs hn ?wE ?uL b2;exact⟨h.metBlend H hs e hz S1 S2,?yO,?CU bs1,?CU bs2⟩
universe Lat
namespace Lat
open Hb
variable[?b1]
noncomputable def downS[?F](i:Nat)[?bU]:?y3
 | 0=>s
 | d+1=>?F8 (?aH t i s d) d
theorem Za[?g9]{R0 B0 R B:Mat}[?s]{Y β:Nat}(I:uF n W w i G R0 B0 t Y R B)[?aF][?cT] :
 ∀d,?dC->?AJ/\?tP ∧
   (d<=i->∀m,m<=d->?xY):=by
 intro d
 have nxt:∀d,d<=i->?AJ->?tP →
  ∀m,m<=d->MN n W w ?g (?bK).1 (?bK).2 t ?L ?bB ?g (?bS+m) (2 ^ Y) (?m8).1 (?m8).2/\?xY:=by
  intro d hd D b m hm;generalize hs:?bK=s at *;obtain⟨R1,B1⟩:=s;have P:=D.part;rw[?uR]at P D
  have rel:∀l,?bS<=l->l<i+1->(?y8).natAbs<=2 ^ Y*(?qW).natAbs:=fun l h1 h2=>by
   have o:?y8=R ?L ?aL:=D.old ?L ?aL O9m;have p:0<?qW:=D.s0.pos l h2;rw[o];refine qa5 (I.gc ?L ?aL O9m (I.pg l O9m)) ?hR
  have run:=IS (n:=n) (W:=W) (w:=w) (lo:=i+1) (R:=R1) (B:=B1) (p:=i-d) (f:=?bS) (m:=i+1) (μ:=2 ^ Y) (c:=i+1+Y+1) (β:=β+?CW d Y) P rel O9m ?f hi (?w O9m) (by
   rw[←qd8];ext pP) b m O9m
  refine⟨run.1,run.2.1.mono ?_⟩;rw[qf8 d 1,qf6];have:=qb5 (i+1+Y+2) (show m<=i+1 by omega);have e:m*(i+1+Y+1+1)=m*(i+1+Y+2):=rfl;omega
 induction d with
 | zero =>
   intro _;have D0:Ot n W w i R B t (i+1-0) (?mM).1 (?mM).2:=Ot.start I.s0;have b0:?EY 0 ?mM:=?gS O9m;exact⟨D0,b0,fun hd m hm=>(nxt 0 hd D0 b0 m hm).2⟩
 | succ d ih =>
   intro hd;obtain⟨D,b,_⟩:=?a8;obtain⟨S,b2⟩:=nxt d O9m D b d ?f
   have D2:Ot n W w i R B t (i+1-?O) (?sS).1 (?sS).2:=by
    rw[show i+1-?O=i-d by omega];rw[?uR]at D;rw[show ?bS+d=i+1 by omega]at S;exact D.next O9m S
   exact⟨D2,b2,fun h m hm=>(nxt ?O h D2 b2 m hm).2⟩
universe Lat
namespace Lat
open Hb
theorem Mq[?G]{j:Nat}:∀{i:Nat},j<=i->(∀k,j<=k->k<i->f k=0)->Al f i=?jA
 | 0,h,_=>by rw[?CJ j 0]
 | i+1,h,hz=>by
   by_cases e:j=i+1
   . rw[e]
   . show Al f i+f i=_;rw[Mq ?c fun k h1 h2=>hz k h1 ?c,hz i ?c ?c];omega
theorem bK[?G]{m h:Nat}:∀{j:Nat},(∀k,k<j->?sH<=2 ^ k*m*h)->(?jA).natAbs+m*h<=2 ^ j*m*h
 | 0,_=>by show(0:Int).natAbs+m*h<=2 ^ 0*m*h;simp
 | j+1,hf=>by
   have a:=bK (f:=f) (m:=m) (h:=h) (j:=j) fun k hk=>hf k O9m;have b:=hf j O9m;have c:=qf4 (?jA) ?f7;show(?jA+f j).natAbs+m*h<=_;rw[qg7];have e:2 ^ j*2*m*h=2 ^ j*m*h+2 ^ j*m*h:=?B
   omega
theorem Wq{a b:Int}{m:Nat}(h:(a+b).natAbs<=m):b.natAbs<=m+a.natAbs:=O9m
theorem sP{x s m M K:Nat}(h1:x<=m+s)(h2:s+M<=K)(h3:m*1<=M):x<=K:=O9m
theorem PR{i:Nat}[?bF][?s](P:?wV){a m:Nat}(h:∀j,j<i->?AS<=m):?nB:=by
 intro j
 induction j using Nat.strongRecOn with
 | _ j ih =>
   ext AT;have hs':?vQ<=m:=hs
   have b:=bK (f:=?fX) (m:=m) (h:=?cL) (j:=j) fun k hk=>by
    ext B2
   have c:?yC:=by
    exact sP ?sU b (?hK)
   rw[qb2]at c;exact ?w7
theorem D6.backs{n W w i:Nat}[?bT][?s](h:?gE)(hi:i<=n){a m:Nat}(hb:∀k,i<=k->B k a=?tX)(hM:∀j,j<i->?E5 ?mL m)(hM2:∀j,j<i->?E5 ?j9 m)(ha:i<=a->a<n->∀j,j<i->?mL=?j9):?nB:=by
 refine PR ?lZ ?dU;have e:?qC=?mL:=h.good.pt a ?H
 have s:?qC=?jZ+(if ?s9 then ?j9 else 0):=by
  have:∀d,i+d<=n->?tZ=?jZ+(if ?A5 then ?j9 else 0):=by
   intro d
   induction d with
   | zero=>intro _;ext a4;show Al _ i=_;omega
   | succ d ih =>
     intro hd;show ?tZ+B ?fY a*R ?fY ?H=_;rw[?fC,hb ?fY ?c,?h3 ?fY _ ?c];by_cases z:i+d=a
     . subst z;rw[?r,?p,?aY];omega
     . ext X;by_cases y:?A5
       . ext kH;omega
       . ext kG;omega
  have:=?x (n-i) O9m;rw[?EL i (n-i)]at this;ext Q
 by_cases z:?s9
 . rw[?bQ,e,ha z.1 z.2 j hj]at s;have:?jZ=0:=O9m
   rw[this];exact ?a2
 . rw[?dK,qw6]at s;rw[←s,e];exact hM j hj
theorem MU[?s][?aT](inc:∀j k,j<k->k<n->t j<t k):∃r,?bL/\?EW n:=by
 have:∀m,?dV->∃r,r<=m/\?EW m:=by
  intro m
  induction m with
  | zero=>intro _;exact⟨0,?bM,?yM,fun j _ hj=>O9m⟩
  | succ m ih =>
    intro hm;obtain⟨r,a,b,c⟩:=?a8;by_cases z:t m<w
    . have hrm:r=m:=by
       refine qi4 a (qh1 ?qK);have:=c r ?f y;have:=inc r m y O9m;omega
      exact⟨m+1,?bM,fun j hj=>by
       by_cases q:j=m
       . rw[q];exact z
       . exact b j O9m,?qZ⟩
    . exact⟨r,O9m,b,fun j h1 h2=>by
       by_cases q:j=m
       . rw[q];omega
       . exact c j h1 O9m⟩
 exact ?x n ?f
theorem D6.first{n W w D:Nat}[?bT][?s](hD:Ou n G M D)(h:?yJ) :
 ∃r,?bL/\Dj w r R t/\(∀i c,r<=i->i<n->?xR)/\Qn n W w r t ?f2 R/\?xI<=D/\?xB:=by
 obtain⟨r,hr,h1,h2⟩:=MU (w:=w) ?iO;have pos:∀k,k<n->0<?f2 k:=fun k hk=>?fH k hk;refine⟨r,hr,⟨h1,fun j k a b=>?iO j k a O9m,fun j c a b=>?gX j c O9m b,fun j a=>?fH j O9m,fun k j a b=>?hQ k j a O9m⟩,fun i c a b d=>?gX i c b (by have:=h2 i a b;omega),⟨fun j c _ a b=>?gX j c a b,fun j k _ a b=>?iO j k a b,h2,fun j _ a=>?d3 j a,fun j _ _=>rfl,fun j _ a=>?fH j a,fun k j _ a b=>?hQ k j a b⟩,?_,?dU⟩
 . have a:=Xv (n:=n) pos r hr;have b:=?lL hD ?f (s:=t) h.pg;rw[AN ?l7]at b;have c:=Cj (n:=n) pos;omega
 . have:=h.headD hD ?f hj;have:=?r1;omega
variable[?b1]
theorem addS_zero(p q:Nat)[?bU]:?cO p q (-0) s=s:=by
 unfold addS;rw[?AA,?AA,aZ,aZ]
theorem dM[?s]{p f:Nat}[?aD]:∀m,(∀j,f<=j->j<f+m->s.1 p ?H / ?iF=0)->?k3=s
 | 0,_=>rfl
 | m+1,h=>by
   have ih:=dM (t:=t) (p:=p) (f:=f) (s:=s) m fun j h1 h2=>h j h1 O9m;show ?cO p ?fW (-((?k3).1 p (t ?fW) / (?k3).1 ?fW (t ?fW))) (?k3)=s;rw[ih,h ?fW ?c ?c,addS_zero]
structure zK(i:Nat)[?F](R:Mat):Prop where
 inc:∀j,j<i->t j<t i
 zero:∀x,x<t i->?eV=0
 pos:∀j,j<=i->0<?aV
 red:∀k j,k<j->j<i->0<=?lN/\?lN<?aV
noncomputable def K3(R:Mat)[?F](i k:Nat):Int:=R k (t i) / R i (t i)
structure Of(n i β c:Nat)[?F](R B:Mat)(d:Nat)[?bU]:Prop where
 rows:∀r x,s.1 r x=if ?mP then ?hM+-(?hP)*?eV else ?hM
 old:∀r x,r≠i->s.2 r x=B r x
 back:∀x,x<n->(s.2 i x).natAbs<=?fF*?O
theorem Of.step{n i β c:Nat}[?s][?bF]{d:Nat}[?aD](L:?r7)(bb:?A2)[?pI](hd:d<i+1)(h:?qQ) :
 ?D2 ?O (?F8 s d)/\?rU:=by
 have own:∀x,s.1 ?L x=R ?L x:=?s3
 have ri:∀x,s.1 i x=?eV:=?s3
 have hdj:∀j,j<=i->?iF=?aV:=fun j hj=>by
  rw[h.rows];by_cases z:?hC<=j/\j<i
  . rw[?bQ,L.zero ?H (L.inc j z.2)];simp
  . ext X
 have zq:∀m,m<d->∀j,?bS<=j->j<?bS+m->s.1 ?L ?H / ?iF=0:=fun m hm j h1 h2=>by
  rw[own,hdj j ?c];obtain⟨a,b⟩:=L.red ?L j O9m O9m;exact Int.ediv_eq_zero_of_lt a b
 have zs:?rU:=fun m hm=>dM m (zq m hm);refine⟨?_,zs⟩;by_cases d0:d=0
 . subst d0;show ?D2 1 s;refine⟨?p9,?eP,fun x hx=>qa5 (?n1) (?hK)⟩;rw[h.rows,?p,?p]
 . obtain⟨e,rfl⟩:∃e,d=e+1:=⟨d-1,O9m⟩
   have last:?C t ?aZ (i-(e+1)+1) s (e+1)=?cO ?aZ i (-(?iD)) s:=by
    show ?cO _ (i-(e+1)+1+e) _ (?C t ?aZ (i-(e+1)+1) s e)=_;rw[zs e ?c,show i-(e+1)+1+e=i by omega,own,hdj i ?f];rfl
   rw[last];refine⟨?p9,fun r x hr=>?_,?gH⟩
   . show ?v s.1 ?aZ i _ r x=_;by_cases z:r=i-(e+1)
     . subst z;rw[Cp,own,ri,?aY,qd1]
     . rw[Dd z,h.rows];by_cases y:i+1-(e+1)<=r/\r<i
       . ext kH
       . ext kG
   . show ?v s.2 i ?aZ _ r x=_;rw[Dd hr];exact ?eP r x hr
   . show(?v s.2 i ?aZ (- -(?iD)) i x).natAbs<=_;rw[Cp,qd1,qo2,?eP ?aZ x ?c];have a:=?n1;have b:=qf4 (s.2 i x) (?iD*B ?aZ x);rw[qb2]at b;have m:(?iD).natAbs*(B ?aZ x).natAbs<=?t*?a1:=qf0 (qd4 (hq _ O9m)) (qd4 (bb _ _ O9m hx));rw[←qd8,?sL]at m;rw[Nat.mul_add _ (e+1+1) 1,Nat.mul_one];omega
theorem oN{n W i β c:Nat}[?s][?bF](L:?r7)[?cT][?pI] :
 ∀d,?dC->?D2 d (?bK):=by
 intro d
 induction d with
 | zero =>
   intro _;refine⟨?p9,?rF,?gH⟩
   . ext a4;rfl
   . show ?tF<=_;have a:?tF<?a1:=?hJ i x hi hx;have p:?t9:=?d9;omega
 | succ d ih =>
   intro hd;exact((?a8).step L ?hJ hq hi O9m).1
theorem Of.bits{n W i β c:Nat}[?s][?bF]{d:Nat}[?aD][?cT][?pI](hd:?dC)(h:?qQ):?C9 (β+(c+i+3)) s:=by
 refine⟨?m4,?m4,?m4⟩
 . rw[h.rows];by_cases z:?mP
   . ext aR;have e:=qf4 (?hM) (-(?hP)*?eV);rw[qb2,qc7]at e;have a:=?zE;have b:=bb.1 i x hi hx;have m:(?hP).natAbs*(?eV).natAbs<=?t*?a1:=qf0 (qd4 (hq r z.2)) (qd4 b);rw[←qd8,?sL]at m;have p:?t9:=?d9
     have q:4*?fF<=2 ^ (β+(c+i+3)):=by
      have e4:4*?fF=2 ^ (2+?fM):=by rw[qd8 2 2 ?fM]
      rw[e4];exact ?d9
     have a':?EI ?hM ?a1:=a;omega
   . ext X;exact qb4 (?zE) ?bW
 . by_cases z:r=i
   . subst z;have a:=?n1
     have l:d+1<2 ^ (r+2):=by
      have:=qq2 (n:=r+2);omega
     refine qc0 a ?_;have e4:2 ^ (β+(c+r+3))=?fF*2 ^ (r+3):=?nK
     rw[e4];refine qq7 ?_ qk7;exact qb4 l ?bW
   . rw[?eP r x z];exact qb4 (?hJ r x hr hx) ?bW
 . rw[h.rows];by_cases z:?mP
   . ext aR;have:=Qf (a:=1) (k:=-(?hP)) (c:=c) (bb.2.2 r x hr hx) (bb.2.2 i x hi hx) (show 1<=?t from qk7) (by rw[qc7];exact qd4 (hq r z.2));rw[qd1]at this;exact qb4 ?x ?bW
   . ext X;exact qb4 (bb.2.2 r x hr hx) ?bW
universe Lat
namespace Lat
open Hb
variable[?b1]
theorem fdiv_small{x h:Int}{c:Nat}(hh:0<h)(hx:?u3):(x / h).natAbs<?t:=by
 have:=JH (x:=x) (h:=h) (K:=x.natAbs) hh ?hR;omega
theorem D6.putB{n W w i β:Nat}[?bT][?s](h:?gE)[?aF][?kO](bb:?I n W β R):J4 n W w i G R B t β β :=
 ⟨hi,?lZ,?d3,fun j hj=>qd4 (bb j _ O9m (?lU)),fun r c hr hc=>qd4 (bb r c O9m (VM c hc)),fun c hc=>qd4 (bb i c hi (VM c hc)),fun l hl=>qd4 (bb i _ hi (?d3 l hl))⟩
theorem Ck.last{n W w r i β c:Nat}[?bT][?aN][?g6](hn:i<n)[?kO](hG:G ?aX)[?cT](hc:∀k,k<i->(R k ?aX).natAbs<?t) :
 Ck n W w r ?g G M B0 kt hd ?a9 (?qI).1 (?qI).2 ∧
 (∀d,?dC->Of n i β c ?a9 R B d (?h7)/\?C9 (β+(c+i+3)) (?h7)) ∧
 (∀d,d<i+1->∀m,m<d->?C ?a9 ?L ?bB (?h7) m=?h7):=by
 have H:=h.st.putB hn VM bb.1;obtain⟨I,_⟩:=h.ins K hi H hG;have D:=(Za I hn bb ?g ?f).1;rw[qh5]at D;ext BA;ext pC
 have L:zK i ?a9 R:=⟨fun j hj=>I.s0.inc j i hj O9m,fun x hx=>I.s0.zero i x O9m hx,?DT I.s0.pos,fun k j h1 h2=>by rw[t1 j h2];exact ?zW k j h1 h2⟩
 have hq:∀k,k<i->?zC<?t:=fun k hk=>?vL (L.pos i ?f) (by rw[t2];exact hc k hk);have run:=oN L bb hq hn;exact⟨h.nextK K hi hn I D,fun d hd=>⟨?o1,(?o1).bits bb hq hn hd⟩,fun d hd=>((?tT).step L ?hJ hq hn hd).2⟩
noncomputable def bC(n r i:Nat)(kt:?m)(c:Nat)(R:Mat):Prop:=∀k j,k<i->i<=j->j<n->(R k ?Y).natAbs<?t
theorem Ck.above{n W w r i β c η:Nat}[?bT][?aN][?aD][?g6](hn:i<n)(hη:?vE)(a:bC n r i kt c R)(l:Of n i β c ?a9 R B ?g s):?E2 ?g (c+η+1):=fun k j h1 h2 h3=>by
 ext pC
 have mi:(R i ?Y).natAbs<?dX:=by
  ext pL;obtain⟨m1,m2⟩:=?g1 i j O9m O9m h3;have:=hη j O9m h3;omega
 have p1:?dX<=?tV:=?d9;have p2:?t<=?tV:=?d9;rw[l.rows,qg7];by_cases z:i+1-?g<=k/\k<i
 . ext aR;have e:=qf4 (R k ?Y) (-(?sC)*R i ?Y);rw[qb2,qc7]at e
   have q:?zC<=?t:=by
    unfold K3;rw[t2];have p:0<R i ?aX:=by rw[?qM,?x1];exact ?g2 i hi hn
    exact qd4 (?vL p (a k i z.2 ?f hn))
   have m:=qf0 q (qd4 mi);rw[←qd8]at m;have b:=a k j z.2 O9m h3;omega
 . ext X;have:k=i:=O9m
   subst this;omega
universe Lat
namespace Lat
open Hb
noncomputable def put2[?K][?cW](x y:Int):?h:=fun k=>if k=i then x else if k=j then y else f k
theorem Rp[?K][?cW](x y:Int):?bO f i j x y i=x:=?r
theorem Ro{i j:Nat}[?K](h:?bN)(x y:Int):?bO f i j x y j=y:=by unfold put2;rw[?k (?CI h),?r]
theorem J9{i j k:Nat}[?K](h1:k≠i)(h2:k≠j)(x y:Int):?bO f i j x y k=f k:=by unfold put2;rw[?aW,?b7]
structure Ap9(o t g r:Int):Prop where
 go:g∣o
 gt:g∣t
 tr:t∣r
 pr:g*r=o*t
 all:∀d:Int,d∣o->d∣t->d∣g
theorem Shares.pair{A B g a b:Int}(h:?qB):Ap9 A B g (?c8*B):=by
 obtain⟨p,eA⟩:=h.dA;have g0:g≠0:=?kU
 have k1:?c8=p:=?lJ
 refine⟨h.dA,h.dB,⟨?c8,qf7 ..⟩,?_,fun d h1 h2=>?_⟩
 . rw[k1,←qe6,←eA]
 . rw[h.e];exact ?kZ (qs3 h1) (qs3 h2)
noncomputable def ChainTo(m i:Nat)[?K]:Prop:=∀a b,a<i->a<b->?tN
noncomputable def ChainAt(m i j:Nat)[?K]:Prop:=?yF/\∀b,i<b->b<j->f i∣f b
theorem ChainAt.step{m i j:Nat}[?G]{g r:Int}(h:?u7)[?pV](p:Ap9 ?fK ?f7 g r):?f0 m i ?aI (?bO f i j g r):=by
 have ne:?bN:=O9m
 refine⟨fun a b ha hab hb=>?_,fun b hb hbj=>?_⟩
 . rw[J9 f (?EK a i) (?EK a j)];have d1:=h.1 a i ha ha O9m;have d2:=h.1 a j ha O9m hj;by_cases e1:b=i
   . rw[e1,Rp];exact p.all _ d1 d2
   . by_cases e2:b=j
     . rw[e2,?cG];exact qv5 d2 p.tr
     . rw[?r8];exact h.1 a b ha hab hb
 . rw[Rp];by_cases e2:b=j
   . rw[e2,?cG];exact qv5 p.gt p.tr
   . rw[J9 f ?c e2];exact qv5 p.go (?uS)
theorem ChainAt.skip{m i j:Nat}[?G](h:?u7)(d:?gM):?f0 m i ?aI f:=⟨h.1,fun b hb hbj=>by
 by_cases e:b=j
 . rw[e];exact d
 . exact ?uS⟩
theorem ChainTo.at{m i:Nat}[?G](h:?yF):?f0 m i ?g f:=⟨h,fun b h1 h2=>O9m⟩
theorem ChainAt.next{m i:Nat}[?G](h:?f0 m i m f):?gN m ?g f:=fun a b ha hab hb=>by
 by_cases e:a=i
 . rw[e]at hab ⊢;exact h.2 b hab hb
 . exact h.1 a b O9m hab hb
theorem P9{f f':?h}{i:Nat}:∀{m:Nat},i<m->(∀k,k<m->k≠i->f' k=f k)->?h9*f i=?bC*f' i
 | m+1,hi,h=>by
   show ?h9*f' m*f i=?bC*f m*f' i;by_cases e:i=m
   . subst e
     have:?l f' i=?l f i:=by
      have:∀l,l<=i->?wG=?l f l:=by
       intro l
       induction l with
       | zero=>intro _;rfl
       | succ l ih=>intro hl;show ?wG*f' l=?l f l*f l;rw[?fC,h l ?c ?c]
      exact ?x i ?f
     rw[this]
     grind
   . have ih:=P9 (f:=f) (f':=f') (i:=i) (m:=m) O9m ?hH;rw[h m ?c (?mR)];have:?h9*f m*f i=?h9*f i*f m:=?B
     rw[this,ih]
     grind
theorem KO[?G]{i j m:Nat}{x y:Int}[?pV](h0:f i≠0)(hj0:f j≠0)(e:x*y=f i*f j):?gF=?bC:=by
 have ne:?bN:=O9m
 have a:=P9 (f:=f) (f':=?oG) (i:=i) (m:=m) O9m fun k hk hne=>by
  by_cases z:k=j
  . rw[z,?cG]
  . exact J9 f hne z ..
 have b:=P9 (f:=?oG) (f':=?vJ) (i:=j) (m:=m) hj fun k hk hne=>by
  by_cases z:k=i
  . rw[z,Rp,Rp]
  . rw[?u5,?u5]
 rw[Rp]at a;rw[?cG,?cG]at b
 have c:?gF*(f j*f i)=?bC*(f j*f i):=by
  have:?gF*(f j*f i)=(?gF*f j)*f i:=?B
  rw[this,b];have:?x9*y*f i=(?x9*f i)*y:=?B
  rw[this,a];have:?bC*x*y=?bC*(x*y):=?B
  rw[this,e]
  grind
 exact Int.eq_of_mul_eq_mul_right (Int.mul_ne_zero hj0 h0) c
structure Bil(β:?rB):Prop where
 l:∀u v y a b,β (?F7 ?n0) y=a*β u y+b*β v y
 r:∀x u v a b,β x (?F7 ?n0)=a*β x u+b*β x v
theorem bH{β:?rB}(hb:Bil β){P Q:Mat}[?G]{i j n w:Nat}(ne:?bN)(hin:i<n)(hjn:j<n)(hiw:i<w)(zX:j<w)(h:∀x y,x<n->y<w->β (P x) (Q y)=?nC)[?BT] :
 ∀x y,x<n->y<w->β (?v ?eN j i ?h1 x) (?c1 Q i j a b (-(f j / g)) ?gJ y)=if x=y then ?bO f i j g ?iE x else 0:=by
 obtain⟨p,eA⟩:=S.dA;obtain⟨q,eB⟩:=S.dB;have g0:g≠0:=by have:=S.pos;omega
 have k1:?eH=p:=?lJ
 have k2:f j / g=q:=?sA
 have k3:?lF=b*q:=by rw[eB,show b*(g*q)=g*(b*q) by grind];ext e4
 have e0:=S.e;have ne':j≠i:=?iQ;rw[k1,k2,k3];have pi:?EV i=?xG:=by rw[?iM ne,Nb]
 have pj:?EV j=fun c=>1*P j c+?jU*(?xG) c:=by
  rw[Nb,?iM ne',Nb]
 have po:∀x,x≠i->x≠j->?EV x=P x:=fun x h1 h2=>by rw[?iM h2,?iM h1]
 have ii:=h i i hin hiw;have ij:=h i j hin zX;have ji:=h j i hjn hiw;have jj:=h j j hjn zX;rw[?r]at ii jj;rw[?eF]at ij;rw[?k ne']at ji;intro x y hx hy;by_cases y1:y=i
 . subst y1;rw[blend_row_p ne];by_cases x1:x=y
   . subst x1;rw[?r,Rp,pi,hb.l,hb.r,hb.r,ii,ij,ji,jj]
     grind
   . rw[?nY];by_cases x2:x=j
     . subst x2;rw[pj,hb.l,hb.l,hb.r,hb.r,ii,ij,ji,jj];have:1*(a*0+?eA)+-(b*q)*(1*(a*f y+b*0)+1*(a*0+?eA))=?eA-b*q*(a*f y+?eA):=?B
       rw[this,←e0];have:?eA=b*(g*q):=by rw[←eB]
       rw[this]
       grind
     . rw[?mD,hb.r,?g4,h x j hx zX,?nY,?mN];simp
 . by_cases y2:y=j
   . subst y2;rw[blend_row_q];by_cases x1:x=i
     . subst x1;rw[?eF,pi,hb.l,hb.r,hb.r,ii,ij,ji,jj];have:1*(-q*f x+p*0)+1*(-q*0+p*f y)=p*f y-q*f x:=?B
       rw[this,eA,eB]
       grind
     . by_cases x2:x=y
       . subst x2;rw[?r,?cG,pj,hb.l,hb.l,hb.r,hb.r,ii,ij,ji,jj];have:1*(-q*0+p*f x)+-(b*q)*(1*(-q*f i+p*0)+1*(-q*0+p*f x))=p*f x-b*q*(?vW):=?B
         rw[this];have:?vW=0:=by rw[eA,eB];grind
         rw[this];omega
       . rw[?mN,?mD,hb.r,h x i hx hiw,?g4,?nY,?mN];simp
   . rw[blend_row_ne y1 y2];by_cases x1:x=i
     . subst x1;rw[?mZ,pi,hb.l,?g4,h j y hjn hy,?mZ,?nW];simp
     . by_cases x2:x=j
       . subst x2;rw[?nW,pj,hb.l,hb.l,?g4,h i y hin hy,?nW,?mZ];simp
       . rw[?mD,?g4];by_cases e:x=y
         . rw[?eK,?eK,J9 f x1 x2]
         . rw[?iA,?iA]
noncomputable def Lb[?aS](A:Mat)(p q:?h):Int:=Al (fun a=>p a*?CS A a) n
theorem jP[?aS](A:Mat):Bil (Lb n w A):=by
 refine⟨fun u v y a b=>?_,fun x u v a b=>?_⟩
 . unfold Lb;rw[←Bh,←Bh,←De];exact ?nN
 . unfold Lb;rw[←Bh,←Bh,←De];refine Ao fun k _=>?_
   have:Al (fun c=>A k c*(?n0)) w=a*Al (fun c=>A k c*u c) w+b*Al (fun c=>A k c*v c) w:=by
    rw[←Bh,←Bh,←De];exact Ao fun c _=>?B
   rw[this]
   grind
theorem Qg[?aT]{A:Mat}{p p' q q':?h}(hp:∀a,a<n->p a=p' a)(hq:∀b,b<w->q b=q' b):?u8=?CE p' q':=by
 unfold Lb;refine Ao ?AM;rw[hp a ha,Ao fun b hb=>by rw[hq b hb]]
theorem Jh[?aS](A:Mat)(p q:?h):?u8=Lb w n ?f5 q p:=by
 unfold Lb;rw[show(fun a=>p a*?CS A a)=fun a=>Al (fun b=>p a*(A a b*q b)) w from ?eS fun a=>(Bh ..).symm];rw[D8];refine Ao fun b _=>?_;rw[←Bh];exact Ao fun a _=>?B
theorem Tt[?aT]{A:Mat}{x:?h}{U:Mat}{q:?h}:∀m,?CE (?F7 ?i3) q=?m1
 | 0=>by
   show ?CE ?cZ q=0;unfold Lb;exact Bj fun a _=>by simp
 | m+1=>by
   have e:(fun c=>?CM ?cF ?jW)=fun c=>1*(?F7 ?i3) c+?o0:=?eS fun c=>by
    show ?i3+?o0=1*?i3+?o0;omega
   rw[e,(?AK).l,Tt m];show 1*?m1+x m*?CE (U m) q=?m1+x m*?CE (U m) q;omega
noncomputable def MH[?aS](A Q M:Mat):Prop:=∀k c,k<n->c<w->M k c=?CE (fun a=>M k ?V) ?c2
theorem MH.rows{n w W:Nat}{A Q M R:Mat}(h:?tK)(hW:?mC)(e:∀i,i<n->In W n M (R i)):?q3:=fun i c hi hc=>by
 obtain⟨x,hx⟩:=e i hi;rw[?m7];have:?CE (fun a=>R i ?V) ?c2=Lb n w A (fun a=>?D5 (fun k=>x k*(fun k a=>M k ?V) k a)) ?c2:=Qg (fun a ha=>hx ?V O9m) ?k7;rw[this,Tt];exact Ao fun k hk=>by rw[?lT]
theorem D6.told{n W w:Nat}[?e5]{A Q M B0 R B:Mat}[?s](h:?yJ)(hW:?mC)(k:?tK):?q3:=k.rows hW (h.good.eqv n ?f).1
noncomputable def beside(w:Nat)(T P:Mat):Mat:=fun r c=>if c<w then T r c else P r ?iX
theorem beside_lo{w:Nat}{T P:Mat}{r c:Nat}(h:c<w):?E4 r c=T r c:=?i h
theorem beside_hi(w:Nat)(T P:Mat)(r a:Nat):?E4 r ?V=P r a:=by unfold beside;rw[?p,Nat.add_sub_cancel_left]
theorem Ov[?BB]:MH n w A Q ?T:=fun k c hk hc=>by
 rw[?dE,?lT];exact Qg (fun a _=>(beside_hi w T P k a).symm) ?k7
theorem T4[?BB]:∀c k,c<w->k<n->tr T c k=Lb w n ?f5 ?c2 (P k):=fun c k hc hk=>by
 show ?cP=_;rw[?lT,Jh]
variable[?b1]
noncomputable def F1(π b i:Nat):Nat:=i*?c6+?CW ?g ?dG
noncomputable def Eh(π b:Nat):?m
 | 0=>0
 | i+1=>?eZ+?iB
noncomputable def Qi(c η r:Nat):?m
 | 0=>0
 | d+1=>?xM+(c+d*?bA+?j7+3)
universe Lat
namespace Lat
open Hb
variable[?b1]
theorem Ck.wide[?e3]{G G':?R}{M B0 R B:Mat}[?aN][?BX](hG:∀c,G c->G' c):?CR G' M:=⟨⟨h.st.good,h.st.st,fun j hj=>hG _ (?lW j hj)⟩,?i7,?eX⟩
theorem pU{n W r β:Nat}{kt:?m}[?aD](b:?uW)(hr:?bL)(hC:∀j,?D->j<n->C ?Y)(hδ:δ<=β):?E2 r (β-δ):=fun k j h1 h2 h3=>by
 have:=b.2.2 k ?Y O9m (hC j h2 h3);have e:?a1=2 ^ (β-δ)*?d0:=?nK
 rw[e]at this;exact Nat.lt_of_mul_lt_mul_right ?x
noncomputable def moveS(i s:Nat)(x:?M):?M:=(?b5 x.1 i s,?b5 x.2 i s)
noncomputable def kY(p:Nat)(x:?M):?M:=(Gj x.1 p,Gj x.2 p)
theorem xW{n i s r:Nat}[?aF](hs:s<=i)(hr:r<n):mvI i s r<n:=by unfold mvI;split;omega;split;omega;ext cV
theorem BB.move{n W β i s:Nat}[?pK][?aF](hs:s<=i):?C9 β (?gY i s x) :=
 ⟨h.1.move hi hs,h.2.1.move hi hs,fun r c hr hc=>by show(?b5 x.1 i s r c).natAbs*_<_;rw[move_row];exact h.2.2 _ c (xW hi hs hr) hc⟩
theorem BB.neg{n W β p:Nat}[?pK]:?C9 β (kY p x) :=
 ⟨h.1.neg,h.2.1.neg,fun r c hr hc=>by
  show(Gj x.1 p r c).natAbs*_<_;unfold Gj;by_cases e:r=p
  . subst e;rw[Bn,qc7];exact ?tJ
  . rw[Bv e];exact ?tJ⟩
noncomputable def insS(i spot st:Nat)(x:?M):?M:=if (?lK).1 ?d st<0 then kY ?d (?lK) else ?lK
theorem YD(i spot st:Nat)(R B:Mat):?oZ=if ?gU then Gj (?w6) ?d else ?w6:=by
 ext BJ
 . ext aR;ext AX;ext aR;rfl
 . ext X;ext AX;ext X;rfl
theorem yD(i spot st:Nat)(R B:Mat):?mB=if ?gU then Gj (?wT) ?d else ?wT:=by
 ext BJ
 . ext aR;ext AY;ext aR;rfl
 . ext X;ext AY;ext X;rfl
theorem BB.ins{n W β i spot st:Nat}[?pK][?aF](hs:?aK):?C9 β (insS i ?d st x):=by
 unfold insS;split
 . exact(?rP).neg
 . exact ?rP
theorem rK{n W w i β:Nat}[?e5]{R0 B0 R B:Mat}[?s]{π b spot st:Nat}[?C5](p:?xH)(hs:?aK)(h0:∀c,c<st->?hA)(h1:R i st≠0)(hW:st<W)(hG:G st)(zW:?xL)(hex:?i4)(bb:?C9 (β+?iT) ?S) :
 uF n W w i G R0 B0 ?a0 ?dG ?oZ ?mB ∧
 Ot n W w i ?oZ ?mB ?a0 0 (?uB).1 (?uB).2 ∧
 ?u1 ∧
 (∀d,?dC->?C9 (?eY) (?F2 d)) ∧
 (∀d,d<=i->∀m,m<=d->?C9 (?eY) (?C ?a0 ?L ?bB (?F2 d) m)):=by
 have I:=p.ins H hs h0 h1 hW hG zW hex;rw[←YD,←yD]at I;have b1:?u1:=(?gS (by have:=qb5 (?c6) hs;omega)).ins ?cJ hs;have run:=Za (β:=?oT) I ?cJ b1
 have up:∀d,?dC->?oT+?CW d ?dG<=?eY:=fun d hd=>by
  unfold F1;have:=qb5 (?g*(i+1+?dG+2)) hd;omega
 refine⟨I,?_,b1,fun d hd=>(?o1).2.1.mono (up d hd),fun d hd m hm=>((?tT).2.2 hd m hm).mono (up ?O O9m)⟩;have D:=(run ?g ?f).1;rw[qh5]at D;exact D
universe Lat
namespace Lat
open Hb
variable[?b1]
theorem V2{w m D:Nat}{T P:Mat}(h:Ou m ?bP T D):Ou m ?bP ?T D:=fun i hi s hs=>by
 have e:(det i fun r l=>?E4 r ?cH)=?nZ:=Cz fun r c _ hc=>?dW ?w1;rw[e];exact h i hi s hs
theorem In.cols{w n:Nat}{R R':Mat}{u v:?h}(h:In w n R u)(hR:∀k c,k<n->c<w->?h6=R' k c)(hu:∀c,c<w->u c=v c):In w n R' v:=by
 obtain⟨x,hx⟩:=h;exact⟨x,fun c hc=>by rw[←hu c hc,?nV];exact Ao fun k hk=>by rw[hR k c hk hc]⟩
theorem Ep.cols[?aT]{T T' S S':Mat}(h:?sY)(e:∀k c,k<n->c<w->?cP=S k c)(e':∀k c,k<n->c<w->T' k c=S' k c):Ep n w S S':=by
 obtain⟨r,t,hr,st,hz⟩:=h.st;refine⟨fun i hi=>(h.fwd i hi).cols e (?DZ e'),fun i hi=>(h.bwd i hi).cols e' (?DZ e),r,t,hr,⟨st.lt,?iZ,fun j c hj hc=>?_,?dU,fun k j hk hj=>?_⟩,fun i c h1 h2 h3=>by rw[←e' i c h2 h3];exact hz i c h1 h2 h3⟩
 . rw[←e' j c ?c (by have:=?hF;omega)];exact ?k2 j c hj hc
 . rw[←?uE];exact ?lC
 . rw[←e' k _ ?c (?hF),←?uE];exact ?o8 k j hk hj
theorem LC{n W w r i E π b:Nat}{e:Int}{T P B0 R B:Mat}[?aN][?gD](hW:w<=W)(h:?CR ?bP ?T)(hi:i<r)(hE:E<=?Z)[?kM](hb:i*E<=?U)(hπ:π<=b):?DC ?bP:=by
 have rn:=g.sq.rn;refine h.st.putD (V2 g.dets) O9m O9m (?wI) (b0:=π) (?tO) hE hb ?f hπ;rw[?dE];obtain⟨a1,a2⟩:=g.le i c O9m hc;omega
theorem N3{n w r E:Nat}{e:Int}[?e5]{A Q T P B0 R B:Mat}[?aN](he:0<e)[?gD][?kF](h:?ES ?n ?T)(k:?wC) :
 ?uQ/\?rJ/\?xP/\?F1 R (fun a=>R x ?V):=by
 have s:?uQ:=?DS h.st.rows;exact⟨s,s.going he g,h.done K,h.st.told ?f (Ov k)⟩
universe Lat
namespace Lat
open Hb
variable[?b1]
theorem lQ{n W w i D π b b0:Nat}{M B0 R B:Mat}[?s][?B9][?BU][?aF][?BM]:?DC (fun c=>c<W) :=
 h.putD hD O9m hi (fun _ hc=>hc) (?DZ hM) h1 h2 h3 h4
theorem Rz{n W w i D b b0 β:Nat}{M B0 R B:Mat}[?s][?B9](hB:∀k a,B0 k a=?tX)[?BU](hi:i<=n)(h2:?oU)[?BY]:BB n W (fun _=>False) 0 β ?S:=by
 refine⟨?jT,fun r a hr ha=>?_,fun _ _ _ z=>z.elim⟩
 . have le:?v7:=by
    by_cases z:r<i
    . exact qa5 (h.rowD hD hi (fun _ hc=>hc) z hc) h2
    . rw[?h3 r c ?c];exact qa5 (hM r c hr hc) (Dg h4)
   exact qc0 le (qh6 ?bG hβ)
 . have pM:∀x,x<n->∀c,pT n B0 M x c=M x c:=fun x hx c=>by
    show ?D5 (fun k=>B0 k x*M k c)=M x c;rw[?W (j:=x) hx fun k _ hne=>by rw[hB,?oN];simp,hB,?r,qd1]
   by_cases z:r<i
   . have:=h.backs hi (a:=a) (m:=?n2) (fun k hk=>by rw[?qX k a hk,hB]) (fun j hj=>by rw[pM a ha];exact ?vO) (fun j hj=>?vO) (fun _ _ j _=>pM a ha _) r z;rw[←qd8]at this;exact qc0 ?x (?iR)
   . show(B r a).natAbs<?a1;rw[?qX r a ?c,hB];have:1<?a1:=Nat.one_lt_two_pow O9m;split
     . ext Q
     . exact qt8 ?bG ?x
universe Lat
namespace Lat
open Hb
theorem E7(w:Nat)(R:Mat):?o w R (fun r a=>R r ?V)=R:=by
 funext r c
 unfold beside;by_cases h:c<w
 . rw[?i h]
 . rw[?k h];show R r (w+?iX)=R r c;rw[show w+?iX=c by omega]
theorem Qn.table{n W w r:Nat}[?g8]{T T' P:Mat}(h:?CQ W ?T)[?BW]:?CQ W (?o w T' P):=by
 have same:∀k c,w<=c->?o w T' P k c=?e7:=fun k c hc=>by unfold beside;rw[?p,?p]
 refine⟨?zX,h.inc,h.ge,h.lt,?k8,?aB,?sW⟩
 . by_cases z:c<w
   . rw[?dW z];exact hz j c h1 h2 z
   . rw[same j c ?c];exact ?n8 j c h1 h2 h3
 . rw[same j _ (?DN h.ge)];exact ?DN h.head
 . rw[same k _ (h.ge j h1 h3)];exact h.red k j h1 h2 h3
theorem Gr{n w w':Nat}{T T' P B:Mat}(h:?uM):Fr n w' (?o w' T' P) B:=fun i j hi hj=>by
 have:=?z3;unfold pD at this ⊢;rw[←this];exact Ao fun c _=>by rw[beside_hi,beside_hi]
structure Sa(n w r E L m:Nat)(e:Int)(A T P PB Q QB:Mat)(kl kr:?m)(hl hr:?h):Prop where
 e0:0<e
 going:?eQ
 kl:Qn n ?n w r kl hl ?T
 kr:?CZ (tr T) Q
 told:?wC
 dl:?uJ
 dr:Fr w n (?o n (tr T) Q) QB
 left:?sO
theorem Sa.next{n w r E L m:Nat}{e:Int}{A T P PB Q QB R RB S SB:Mat}{kl kr tl ur:?m}{hl hr:?h}{G G':?R}(hL:?y4)[?BO]
 (s1:Ck n ?n w r n G ?T PB kl hl tl R RB)
 (s2:Ck w ?c0 n r w G' (?o n ?cM Q) QB kr hr ur S SB) :
 ?xJ/\(¬?fO->0<m/\Sa n w r E L (m-1) e A ?i5 (?bJ) RB (?f1) SB kl kr hl hr):=by
 obtain⟨a1,a2,a3,a4⟩:=N3 h.e0 h.going h.kl s1 h.told;have kr':?CZ ?cM Q:=?CA h.kr.table a2.sq.row0;have t2:?D8 Q:=fun x c hx hc=>T4 (T:=R) (P:=?p2) a4 x c hx hc;obtain⟨b1,b2,b3,b4⟩:=N3 h.e0 a2 kr' s2 t2;have st:?xJ:=⟨R,a1,b1⟩
 refine⟨st,fun ns=>?_⟩;obtain⟨m0,lf⟩:=h.going.next h.e0 hL st h.left ns;refine⟨m0,h.e0,b2,?_,?_,?_,?_,?_,lf⟩
 . have:Qn n ?n w r kl hl (?o w R ?bJ):=by rw[E7];exact a3
   exact ?CA ?i6 b2.sq.row0
 . have:?CZ S ?f1:=by rw[E7];exact b3
   exact ?CA ?i6 b2.sq.flip.row0
 . intro x c hx hc;show S c x=_;rw[b4 c x hc hx,Jh]
 . have d:=s1.st.good.dual h.dl;have:?wH:=?tL
   exact ?j6
 . have d:=s2.st.good.dual (Gr h.dr);have:?AE:=?tL
   exact ?j6
noncomputable def one:Mat:=fun i j=>if i=j then 1 else 0
theorem Th[?aS](T:Mat):Fr n w (?o w T one) one:=fun i j hi hj=>by
 unfold pD
 rw[show(fun c=>?o w T one i ?dP*?l0)=fun c=>(if c=i then 1 else 0)*?l0 from ?eS fun c=>by
  rw[beside_hi];show(if i=c then ?hT else 0)*_=_;by_cases e:i=c
  . rw[?eK,?i ?jP]
  . rw[?iA,?k ?mR]]
 rw[Dk (?F7 ?l0) i n,?i hi];show(if j=i then ?hT else 0)=_;by_cases e:i=j
 . rw[?eK,?i ?jP]
 . rw[?iA,?k ?mR]
theorem MT[?aT](A:Mat):∀x c,x<n->c<w->A x c=?CE (one x) (one c):=fun x c hx hc=>by
 unfold Lb
 rw[?W (j:=x) hx fun k _ hne=>by
  have:one x k=0:=?p7;ext bV]
 rw[?W (j:=c) hc fun k _ hne=>by
  have:one c k=0:=?p7;ext bV]
 have e1:one x x=1:=?r;have e2:one c c=1:=?r;rw[e1,e2];simp
theorem fK{n w D D' L:Nat}{A R RB S SB:Mat}{t u:?m}{G G':?R}(hD:Ou n G (?o w A one) D)(hD':Ou w G' (?o n ?cM one) D')
 (s1:D6 n ?n w n G (?o w A one) one t R RB) (s2:D6 w ?c0 n w G' (?o n ?cM one) one u S SB) :
 ∃(r:Nat) (e:Int),?bL/\r<=w/\e<=D/\Sa n w r D L (r*?dH) e A ?i5 (?bJ) RB (?f1) SB t u ?f2 (fun j=>?oH) ∧
   (?xB)/\∀j,j<w->?oH<=D':=by
 obtain⟨r,hr,st,hz,K,pr,hd⟩:=s1.first hD;obtain⟨r',hr',st',hz',K',_,hd'⟩:=s2.first hD';have e0:0<?xI:=Cj fun j hj=>?lC;have rs2:Ep w n ?cM (tr ?i5):=?DS s2.rows;have g:=Vb.first (T:=A) hr st hz rs2 pr;have rw':=g.sq.rw
 have er:r'=r:=by
  refine qi4 ?xC ?xC
  . have p:=st'.pos r z;have:S r (u r)=0:=g.sq.col0 (u r) r (st'.lt r z) ?f O9m;omega
  . have p:0<S r' r':=g.pos r' z;have:S r' r'=0:=hz' r' r' ?f O9m O9m;omega
 subst er;have d1:=s1.good.dual (Th n w A);have d2:=s2.good.dual (Th w n ?cM);have tl:=s1.told ?f (Ov (MT (n:=n) (w:=w) A));have t2:?D8 one:=fun x c hx hc=>T4 (T:=R) (P:=?p2) (Q:=one) tl x c hx hc;have tl2:=s2.told ?f (Ov t2);refine⟨r',_,hr,rw',pr,⟨e0,g,?_,?_,fun x c hx hc=>?_,?_,?_,MI.start g⟩,hd,hd'⟩
 . have:Qn n ?n w r' t ?f2 (?o w R ?bJ):=by rw[E7];exact K
   exact ?CA ?i6 ?nL
 . have:Qn w ?c0 n r' u (fun j=>?oH) (?o n S ?f1):=by rw[E7];exact K'
   exact ?CA ?i6 g.sq.flip.row0
 . show S c x=_;rw[tl2 c x hc hx,Jh]
 . have:?wH:=by rw[E7];exact d1
   exact ?j6
 . have:?AE:=by rw[E7];exact d2
   exact ?j6
structure DiagAt(n w m:Nat)(E:Nat)(A P PB Q QB:Mat)[?K]:Prop where
 mn:?dV
 mw:m<=w
 diag:∀x y,x<n->y<w->?CE (P x) (Q y)=?nC
 pos:∀x,x<m->0<f x
 zero:∀x,m<=x->x<n->x<w->f x=0
 prod:?bC<=E
 dl:Fr n 0 P PB
 dr:Fr w 0 Q QB
theorem aR[?aT]{T P B:Mat}(h:?uM):Fr n 0 P B:=fun i j hi hj=>by
 rw[←?z3];unfold pD;exact Ao fun c _=>by rw[beside_hi,qt7]
theorem Sa.diag{n w r E L m:Nat}{e:Int}{A T P PB Q QB:Mat}{kl kr:?m}{hl hr:?h}[?BO](s:?fO):?fR n w r E A P PB Q QB (fun x=>T x x):=by
 refine⟨h.going.sq.rn,h.going.sq.rw,fun x y hx hy=>?_,h.going.pos,fun x h1 h2 h3=>h.going.sq.row0 x x h1 h2 h3,h.going.prod,aR h.dl,aR h.dr⟩;rw[←h.told x y hx hy];by_cases z:x=y
 . rw[?bQ,z]
 . ext X;exact s x y hx hy z
theorem DiagAt.share[?C4][?G][?C2]{i j:Nat}[?pV][?BT] :
 ?fR n w m E A (?v ?eN j i ?h1) (?v (?v PB j i (-1)) i j (?lF)) (?c1 Q i j a b (-(f j / g)) ?gJ) (?c1 QB i j ?gJ (f j / g) (-b) a) (?bO f i j g ?iE):=by
 have ne:?bN:=O9m
 have mn:=h.mn;have mw:=h.mw;have pi:=?aB i O9m;have pj:=?aB j hj;have pg:=S.pos;have pr:=S.pair;have gz:?eH*g=f i:=Int.ediv_mul_cancel S.dA
 have po:0<?eH*f j:=by
  have:0<g*?iE:=by rw[pr.pr];exact Int.mul_pos pi pj
  exact Int.pos_of_mul_pos_right ?x O9m
 refine⟨mn,mw,bH (?AK) ne O9m O9m O9m O9m ?o7 S,?gH,fun x h1 h2 h3=>?_,?_,?_,?_⟩
 . by_cases e1:x=i
   . rw[e1,Rp];exact pg
   . by_cases e2:x=j
     . rw[e2,?cG];exact po
     . rw[?r8];exact ?aB x hx
 . rw[J9 f ?c ?c];exact ?n8 x h1 h2 h3
 . rw[KO hij hj ?c ?c pr.pr];exact h.prod
 . have d1:=h.dl.add (p:=i) (q:=j) O9m O9m ne 1;have d2:=d1.add (p:=j) (q:=i) O9m O9m (?iQ) ?h1;rw[qo2]at d2;exact d2
 . have B:=S.blend (π:=?uX+?AN) pi (qa5 O9m (qd4 qq2)) (qa5 O9m (qd4 qq2));have d:=h.dr.blend (p:=i) (q:=j) O9m O9m ne B.one;rw[qo2]at d;exact d
theorem DiagAt.le[?C4][?G][?C2]{x:Nat}(hx:x<m):f x<=E:=qu1 (Xw ?aB hx) ?oB
noncomputable def Vt(n r:Nat)(kt:?m):?R:=fun c=>∃j,?D/\j<n/\c=?cB
theorem Qn.bits{n W w r β η:Nat}[?g8]{M B:Mat}[?pS][?C0](b1:?I n W β M)(b2:?A2)(hβ:?n7):BB n W ?hI ?cE β (M,B):=by
 refine⟨b1,b2,fun k c hk hc=>?_⟩;obtain⟨j,h1,h2,rfl⟩:=hc
 have le:?yR<=?dX:=by
  ext kL;have q:=?vH
  have q':?z4:=by
   ext AV
   exact_mod_cast this
  rcases qm9 k j with z | z | z
  . obtain⟨a,b⟩:=?g1 k j h1 z h2;omega
  . subst z;rw[?d5 k h1 h2];exact q'
  . rw[?cD k _ ?c hk (?dJ j k h1 z hk)];exact ?a2
 show ?yR*2 ^ ?cE<?a1;have e:?a1=2 ^ ?bA*2 ^ ?cE:=?nK
 rw[e];refine Nat.mul_lt_mul_of_pos_right ?_ (?rX _);exact AG le
noncomputable def Mo(π b η r n:Nat):Nat:=?b9+?gO
theorem uD{n W r β η π b:Nat}{kt:?m}[?aD](bb:BB n W ?hI ?cE (?g0) s)(hr:?bL)(hβ:?n7):?E2 r ?eI:=by
 have:=pU bb hr (kt:=kt) (fun j h1 h2=>⟨j,h1,h2,rfl⟩) O9m;rw[show ?g0-?cE=?cK by omega]at this;ext Q
theorem kH(π b:Nat){i r:Nat}(h:i<=r):?eZ<=?b9:=by
 induction r with
 | zero=>rw[?CJ i 0];ext aE
 | succ r ih =>
   by_cases e:i=r+1
   . rw[e];ext aE
   . have:=?a8;show _<=?b9+F1 π b r;omega
theorem lS(c η r:Nat){d e:Nat}(h:d<=e):?xM<=?zH:=by
 induction e with
 | zero=>rw[?CJ d 0];ext aE
 | succ e ih =>
   by_cases z:d=e+1
   . rw[z];ext aE
   . have:=?a8;show _<=?zH+_;omega
universe Lat
namespace Hb
open PySem L2
theorem HN{g:TG}{te:TE}{D:Addr}{Q:?sK}{τ:St}{H:Hp}{K:W.Frag}{a b:Addr}{xs ys:?eU}{n:Nat}(hn:xs.length=n/\ys.length=n)(Pv:Nat->?eU->St->?sK)(h0:Pv 0 [] τ H)(hl:∀i zs τ H,i<=n->?qG->?s4/\Ed K H b ys)
 (hs:∀i x y zs τ H p,xs[i]?=?e x->ys[i]?=?e y->?qG->H p=none->g (?a6) τ (upd H p (.tup [x,y])) fun τ2 H2=>te τ2 H2 fun y H4=>H4 D=?CO zs/\zs.length<sizeLine/\Pv ?g ?x6 τ2 (upd H4 D (?E ?x6)))
 (hd:∀zs τ H,Pv n zs τ H->Q H):Sc (Ityp K a b) g KH te D Q τ H:=LY hn Pv h0 hl (fun i x y zs τ H p e1 e2 q hp=>hs i x y zs τ H p e1 e2 q hp) hd
noncomputable abbrev big:Nat:=67108864
theorem VR:∃n:Nat,n=?qF:=⟨_,rfl⟩
noncomputable def L9:Nat:=?qD VR
theorem Z5:L9=?qF:=?qP VR
theorem GJ{i j:Int}{n:Nat}(hi:?vZ)(hj:j.natAbs<2 ^ n)(h:9000+n<=134217728:=by decide):?nD i j:=S8 ?nO hj h
theorem bU[?BQ]:?nD i j:=S8 ?nO ?A3 ?bG
theorem Vd.of9{i j:Int}(h0:j≠0)(h:?vP):Vd i j:=Vd.of h0 (Z5▸h)
theorem A28[?BQ]:(i*j).natAbs<2 ^ 18000:=by
 rw[qb2,show 18000=9000+9000 from rfl,qd8];exact qp8 ?nO ?A3
theorem uZ{x π:Nat}(h:x<=?Z)(hπ:π<=8999):x<L9:=by
 rw[Z5];exact qc0 h (?iR)
noncomputable def BO[?b2][?a5]:Prop:=?s7 n W big s.1/\?s7 n n big s.2
noncomputable def TA(H:Hp)(r:Addr)(as:?d2)[?b2](f:Lat.Mat):Prop:=as.length=n/\H r=?CO (?fL)/\∀i c,?qV->H c=?CO (VI W ?fK)
section
variable{K:W.Frag}{H H':Hp}{r:Addr}{as:?d2}{n W:Nat}{f g:Lat.Mat}
theorem TA.keep[?aP](h1:∀o,H r=?dO->H' r=?dO)(h2:?yU):?p8:=⟨x.1,h1 _ ?fE,fun i c e=>h2 c (qb6 e) _ (?dI i c e)⟩
theorem TA.same[?aP][?kQ]:?p8:=?nF (fun _ e=>?mO) fun _ _ _ e=>?mO
theorem TA.put{y:Addr}{o:HO}[?aP](h1:r≠y)(h2:∀a∈as,a≠y):?EQ (upd H y o) f:=?nF (fun _ e=>?E0 h1) fun a ha _ e=>?E0 (h2 a ha)
theorem TA.row[?aP]{i:Nat}[?aF]:∃c,?qV/\(?fL)[i]?=?e (?j c)/\c∈as/\SqL K H c (VI W ?fK):=by
 obtain⟨h1,_,h3⟩:=x;have e:=qa0 (l:=as) (i:=i) O9m;refine⟨as[i],e,by rw[qa8,e];rfl,qd3 _,.of (h3 i _ e)⟩
theorem TA.rep[?aP]:Rep K H (?j r) (dT n W f):=by
 refine EV (us:=?fL) (.of ?fE) (by rw[qa2,x.1]) ?k5;obtain⟨c,_,e,_,h⟩:=x.row (K:=K) hi;exact⟨c,e,h⟩
theorem TA.there[?aP]:H r≠none/\∀a∈as,?t0:=by
 refine⟨by rw[?fE];exact(fun z=>nomatch z),?AM⟩;obtain⟨i,hi,rfl⟩:=qk6 ha;rw[?rL];exact fun z=>by cases z
theorem TA.of{D:Addr}{H1:Hp}{w h:Nat}(R:Rows H H1 D as w f)(hl:as.length=h):TA H1 D as h w f:=⟨hl,R.at,fun i c e=>(R.row i c e).2.2⟩
theorem TA.congr[?aP](e:∀i c,i<n->c<W->f i c=g i c):?EQ H g:=by
 refine⟨x.1,?fE,fun i c ec=>?_⟩;have hi:i<n:=by rw[←x.1];exact(?oO ec).1
 rw[?dI i c ec,P0 fun k hk=>e i k hi hk]
theorem TA.x[?kI][?aP][?kE]:?p8:=by
 refine ?nF (fun o e=>?DX ?fE e) fun a ha o e=>sx _ _ ?_ e;obtain⟨i,hi,rfl⟩:=qk6 ha;exact E6 (?rL) hp ?aA
theorem TA.made{H2:Hp}{L D:Addr}{i:Nat}[?aP](s2:Same H H2)[?aF](hL:H2 L=?CO (?yW i (?j D)))(hD:H2 D=?CO (VI W (g i)))(e:∀r,r≠i->g r=f r):TA H2 L (as.set i D) n W g:=by
 refine⟨by rw[qi6,x.1],by rw[hL,List.map_set],fun j c ec=>?_⟩;rw[qr9]at ec;by_cases hj:i=j
 . subst hj;ext BE;exact hD
 . rw[?k hj]at ec;rw[e j ?q7];exact s2 _ _ (?dI j c ec)
theorem TA.two{i j:Nat}{D1 D2:Addr}[?aP][?aF](hj:j<n)(hij:?bN)(h':?F4 r ((?yW i (?j D1)).set j (?j D2)))(keep:?yU)(h1:?F4 D1 (VI W (g i)))(h2:?F4 D2 (VI W (g j)))(e:∀k,k≠i->k≠j->g k=f k):TA H' r (?zN) n W g:=by
 refine⟨by rw[qi6,qi6,x.1],by rw[h',List.map_set,List.map_set],fun k c ec=>?_⟩;rw[qr9,qi6]at ec;by_cases hkj:j=k
 . subst hkj;rw[?r,?i (by rw[x.1];exact hj)]at ec;cases ec;exact h2
 rw[?k hkj,qr9]at ec;by_cases hki:i=k
 . subst hki;ext BE;exact h1
 rw[?k hki]at ec;rw[e k (?CI hki) (?CI hkj)];exact keep c (qb6 ec) _ (?dI k c ec)
theorem JA{i j:Nat}{D1 D2 a:Addr}(h:a∈?zN):?lS\/a=D1\/a=D2:=by
 rcases qn5 h with h | h
 . rcases qn5 h with h | h
   . exact ?w h
   . exact ?z (?w h)
 . exact ?z (?gQ)
theorem Kd{l i:Nat}(h:i<l):TF l (?nS:Int)=?e i:=by
 unfold TF;rw[?aY,?aY,qe4]
universe e9
noncomputable def mNames:?b8 Str:=["turn","blend","put_in","meet","shrink","shrink_row"]
structure LX(H:Hp)(C p r b:Addr)(sv:Option V)[?b2][?a5](N:?bZ):Prop where
 ob:Jj fun dx fs=>?CL C fs/\Dn (?CP "rows" r) (?CP "backs" b) (?bE (?v5:Str)=sv) ((∀m∈mNames,?wD)) (fs.length<=10)
 rw:∃as,TA H r as n W s.1/\∀a∈as,?qU
 bk:∃bs,TA H b bs n n s.2/\∀a∈bs,?qU
 ne:r≠b
 nr:¬N r
 nb:¬N b
 nn:∀a,N a->?t0
theorem LX.keep{H H':Hp}[?kC][?kP][?kJ](e:?aU):?xU:=by
 ext pB;exact⟨?zZ,⟨as,?yZ,a2⟩,⟨bs,?qN,b2⟩,?bH,x.nr,x.nb,fun a ha z=>x.nn a ha (e.free z)⟩
theorem LX.refs{H:Hp}[?kC][?kP][?kJ]:p≠r/\p≠b:=by
 obtain⟨dx,fs,h1,_⟩:=x.ob;obtain⟨as,a1,_⟩:=x.rw;obtain⟨bs,b1,_⟩:=x.bk;exact⟨E6 h1 a1.2.1 ?aA,E6 h1 b1.2.1 ?aA⟩
noncomputable def tnS(t:Tn)[?a5]:?u:=(QT t s.1,QT (tnA t) s.2)
noncomputable def XW[?b2](f:Lat.Mat):Tn->Prop
 | .ad i j k=>i<n/\j<n/\?bN/\∀c,c<W->?nD k (f j c)
 | .mi i=>i<n
 | .sw _ _=>False
noncomputable def Vc(r b:Addr)(H H':Hp):Prop:=∀x o,x≠r->x≠b->H x=?dO->H' x=?dO
theorem Vc.of{r b:Addr}{H H':Hp}[?kQ]:?hU:=fun _ _ _ _ e=>?mO
theorem Vc.trans{r b:Addr}{H H1 H2:Hp}(x:Vc r b H H1)(y:Vc r b H1 H2):Vc r b H H2:=fun a o n1 n2 e=>y a o n1 n2 (x a o n1 n2 e)
theorem Vc.l[?BR]:Vc r b H (upd H' r o):=?DI n1
theorem Vc.r[?BR]:Vc r b H (upd H' b o):=?DI n2
section
variable[?aO]
noncomputable def Xh:Sp:=fun vs H Q _=>zN fun(r:Addr) (u:V) (as:?d2) ?dT (f:Lat.Mat) (t:Tn)=>Mn (vs=[?j r,u]) (?sD) (Rep K H u (QM t)) (XW n W f t) ?hY ?iG (∀(D:Addr) (as':?d2) (H':Hp),?AH->?aU->TA H' D as' n W (QT t f)->(∀a∈as',(?lS\/?l8)/\a≠D)->Q (?j D) H')
noncomputable def Mr[?e1]:Sp:=fun vs H Q _=>bB fun(p dx C:Addr) (r b:V)=>B6 (vs=[?a6,r,b]) ((C=CL\/C=CS)) (?CL C []) (∀H',(∀fs,fs=?wZ->H'=upd (upd H p (?a7 C dx (putF "rows" r []))) p (?a7 C dx fs)->?aC))
noncomputable def Kq[?aO]:Sp:=fun vs H Q _=>fJ fun(p:Addr) (u:V) (C r b:Addr) ?oD ?dT ?dS ?oJ (t:Tn)=>iF (vs=[?a6,u]) ((C=CL\/C=CS)) (?l9) (Rep K H u (QM t)) (XW n W s.1 t) (XW n n s.2 (tnA t)) ?hY ?iG (∀(r' b':Addr) (H':Hp),?o5->?yN->?t5->LX H' C p r' b' sv n W (tnS t s) N->?aC)
noncomputable def Vn:Sp:=fun vs H Q _=>∃A B:Int,vs=[?y A,?y B]/\0<A/\B≠0/\?yY/\?vV/\∀(L:Addr) (g a b:Int) (H':Hp),?aU->Ed K H' L [?y g,?y a,?y b]->?hN A B g a b->?t7
noncomputable def Mt[?aO]:Sp:=fun vs H Q _=>ZN fun(p C r b:Addr) ?oD (n W i j:Nat) (A B:Int) ?dS ?oJ=>wA (vs=[?a6,?jH,?y j,?y A,?y B]) ((C=CL\/C=CS)) (?l9) ?jV (j<n) (?bN) ?hY ?iG (0<A) (B≠0) (?yY) (?vV) (?nM) (∀(L:Addr) (g a c:Int) (H':Hp),?hU->?j5->Ed K H' L [?y g,?y a,?y c]->?hN A B g a c->LX H' C p r b sv n W (?o2 i j a c (-(B / g)) (?c8) s) N->?t7)
universe e9
noncomputable def Hds(W:Nat)[?F](f m:Nat)(R:Lat.Mat):Prop:=∀j,f<=j->j<m->t j<W/\0<?aV/\?cL<L9
structure SX(CS:Addr)(H0 H:Hp)(p q:Addr)(M:?bZ)[?b2][?F](cnt:Nat)[?a5]:Prop where
 ex:∃r b,?qH/\?wW/\?q4
 st:H q=?CO (VI cnt fun i=>((t i:Nat):Int))
 same:?oE
 fp:?l1
 fq:?D3 q
 mq:M q
 sm:n<=100/\W<=200/\cnt<=n
section
variable{CS:Addr}{H0 H H':Hp}{p q:Addr}{M:?bZ}{n W cnt:Nat}[?s]{s s':?u}
theorem SX.redo{H1:Hp}{r' b':Addr}[?pM](e:?x3)(sx:?jR p H1 H')(h1:H1 r'=none)(h2:H1 b'=none)(y:?E6 r' b'):?pX:=by
 have s1:=?lG e;obtain⟨r,b,z,_⟩:=x.ex;obtain⟨dx,fs,hp,_⟩:=z.ob;exact⟨⟨r',b',y,s1.free h1,s1.free h2⟩,?DX x.st (e _ _ x.st),sx.same s1 x.fp,x.fp,x.fq,x.mq,?c9⟩
theorem SX.redo2{r b:Addr}[?pM](lx:?qH)(f1:?wW)(f2:?q4)(fr:?hU)(_kp:?j5)(y:?E6 r b):?pX :=
 ⟨⟨r,b,y,f1,f2⟩,fr _ _ (fun z=>?i2 ?wX) (fun z=>?hX ?wX) x.st,?DL f1 f2,x.fp,x.fq,x.mq,?c9⟩
theorem SX.re[?pM](h:s=s'):?CH cnt s':=h▸x
universe e9
theorem insAt_get{α:Type}(k:Nat)(y:α)(xs:?hZ)(h:k<=xs.length)(j:Nat):(?w2)[j]?=if j<k then xs[j]? else if j=k then ?e y else xs[j-1]?:=by
 unfold insAt;by_cases h1:j<k
 . rw[?b4,qb8 (by rw[qc1];omega),qi7,?b4]
 . rw[?aW,qc4 (by rw[qc1];omega),qc1,Nat.min_eq_left h];by_cases h2:j=k
   . rw[?c4,h2,qh5];rfl
   . rw[?b7];obtain⟨e,rfl⟩:∃e,j=k+1+e:=⟨j-?J,O9m⟩
     rw[show k+1+e-k=e+1 by omega,List.getElem?_cons_succ,qr1]
     congr 1
     omega
theorem AF{α:Type}{xs:?hZ}{i s:Nat}{y:α}(hi:xs[i]?=?e y)(hs:s<=i)(j:Nat):(?cY s y (xs.eraseIdx i))[j]?=xs[Lat.mvI i s j]?:=by
 have hl:i<xs.length:=?rY;rw[?sT _ _ _ (by rw[qi9 hl];omega)];unfold Lat.mvI;by_cases h1:j<s
 . rw[?b4,?b4,List.getElem?_eraseIdx,?aY]
 . rw[?aW,?aW];by_cases h2:j=s
   . rw[?c4,?c4,hi]
   . rw[?b7,?b7,List.getElem?_eraseIdx];by_cases h3:j<=i
     . rw[?aY,?i h3]
     . rw[?p,?k h3]
       congr 1
       omega
theorem aL{α β:Type}(g:α->β)(k:Nat)(y:α)(xs:?hZ):(?w2).map g=?cY k (g y) (?xS):=by
 unfold insAt;rw[qb0,qd5,qo8,qo9]
theorem Uq{α β:Type}(g:α->β):∀(xs:?hZ) (i:Nat),(xs.eraseIdx i).map g=(?xS).eraseIdx i
 | [],_=>rfl
 | _::_,0=>rfl
 | x::xs,i+1=>?t4 (g x::·) (Uq g xs i)
theorem TA.move{H H1:Hp}{r:Addr}{as:?d2}{n W i s:Nat}{f:Lat.Mat}{ci:Addr}[?aP][?aF](hs:s<=i)(LM:as[i]?=?e ci)(h1:H1 r=?CO (?cY s (?j ci) ((?fL).eraseIdx i)))(h2:∀a∈as,H1 a=H a) :
 TA H1 r (?qO) n W (Lat.moveR f i s)/\?wA:=by
 have mem:?wA:=fun a ha=>by
  obtain⟨j,hj⟩:=qh7 ha;rw[?xE]at hj;exact qb6 hj
 refine⟨⟨?_,?_,fun j c e=>?_⟩,mem⟩
 . unfold insAt;rw[qb1,qc5,qc1,qg6,qi9 (by rw[x.1];exact hi),x.1];omega
 . rw[h1,aL,Uq]
 . rw[?xE]at e;rw[h2 c (qb6 e),Lat.move_row];exact ?dI _ _ e
theorem fT{i s st:Nat}[?s](hs:s<=i):?cY s (?fQ ((st:Nat):Int)) (VI i fun k=>((t k:Nat):Int))=VI ?g fun k=>((?sX t s st k:Nat):Int):=by
 apply qp4;intro j;rw[?sT _ _ _ (by rw[Bu];exact hs)];by_cases hj:j<i+1
 . rw[Cq hj];unfold Lat.insT;by_cases h1:j<s
   . rw[?b4,?b4,?hE]
   . rw[?aW,?aW];by_cases h2:j=s
     . rw[?c4,?c4]
     . rw[?b7,?b7,?hE]
 . rw[?p,?p,?jL,?jL]
theorem Xl[?F](p f:Nat)[?a5]:∀d l,l≠p->(?dR t p f s d).1 l=s.1 l
 | 0,_,_=>rfl
 | d+1,l,h=>by
   rw[Lat.shrS];show Lat.addR _ _ _ _ l=_;rw[Lat.addR_row_ne h];exact Xl t p f s d l h
noncomputable def AZ[?b2][?F](i f m:Nat)[?a5]:Prop:=∀d,d<=m-f->BO n W (?dR t i f s d)
noncomputable def IE[?b2][?F](i:Nat)[?a5]:Prop:=∀d,d<=i->Hds W t ?bB ?g (?uO).1/\AZ n W t ?L ?bB ?g (?uO)
noncomputable def Ai4[?F](spot i:Nat)(k:Int)[?a5]:?u:=?dR t i ?q (?fN i ?d (-k) s) ?aJ
noncomputable def Ym[?pO][?a5]:?u:=?o2 ?d i a b (-(B / g)) (?c8) s
noncomputable def OE[?F][?pO][?a5]:?u:=?dR t ?d ?q (Ym ?d i A B g a b s) ?aJ
noncomputable def Ai3[?F][?pO][?a5]:?u:=?dR t i ?q (OE t ?d i A B g a b s) ?aJ
structure PV[?b2][?F](spot i:Nat)[?a5](Nx:?eL):Prop where
 bo:?nM
 hd:Hds W t ?d i s.1
 oth:?eD≠0/\?EI ?eD L9
 add:∀k,?eD=k*?lY->AZ n W t i ?q i (?fN i ?d (-k) s)/\Nx (Ai4 t ?d i k s)
 ble:∀g a b,?hN ?jK ?k1 g a b->AZ n W t ?d ?q i (Ym ?d i ?jK ?k1 g a b s)/\AZ n W t i ?q i (OE t ?d i ?jK ?k1 g a b s)/\Nx (Ai3 t ?d i ?jK ?k1 g a b s)
structure ZI(n W i:Nat)[?F](s0:?u)(I:?vB):Prop where
 start:I 0 s0
 ok:∀spot s,?aK->?mW->∃c,c<W/\?f6≠0
 skip:∀spot s,?c5->?mW->(∀c,c<=?cR->?f6=0)->I ?q s
 meet:∀spot s,?c5->?mW->(∀c,c<?cR->?f6=0)->?eD≠0->PV n W t ?d i s (I ?q)
noncomputable def Hn(W:Nat)(u:?h)(st:Nat):Prop:=(∀c,c<st->u c=0)/\u st≠0/\st<W
theorem Hn.one{W W':Nat}{u:?h}{a b:Nat}(h:Hn W u a)(k:Hn W' u b):a=b:=by
 rcases qm9 a b with e | e | e
 . exact ?aG (k.1 a e) h.2.1
 . exact e
 . exact ?aG (h.1 b e) k.2.1
theorem Hn.ex{W:Nat}{u:?h}(h:∃c,c<W/\u c≠0):∃st,?wL:=by
 obtain⟨c,hc,h0⟩:=h
 induction c using Nat.strongRecOn with
 | _ c ih =>
   by_cases z:∃d,d<c/\u d≠0
   . obtain⟨d,hd,hd0⟩:=z;exact ih d hd O9m hd0
   . refine⟨c,?tG,h0,hc⟩;exact qg5 fun k=>z ⟨d,hd,k⟩
structure fF[?b2](J:?xX):Prop where
 step:∀i t s,i<n->J i t s->∃I,?v2/\∀spot st s',?aK->?n9->?kS->(?i4) →
  IE n W ?jC i (?E3 i)/\J ?g ?jC (?nE ?jC i (?E3 i) ?g)
theorem iC{w n:Nat}{f g:?h}{h:?h}(h1:∀c,c<w->h c=f c)(h2:∀a,a<n->h ?V=g a):VI w f++VI n g=VI ?n h:=by
 apply qp4;intro j;by_cases e1:j<w
 . rw[qb8 (by rw[Bu];exact e1),Cq e1,?hE,h1 j e1]
 . rw[qc4 ?e0,Bu];by_cases e2:j<w+n
   . rw[?hE,Cq e2,←h2 (j-w) ?c,show w+(j-w)=j by omega]
   . ext BI
theorem UD{w n:Nat}[?G]:Cf (VI ?n f) ?hD ?a3=VI n ?tU:=by
 ext B0;have s1:?kR ?n 0 ?hD=w:=?y1
 unfold Cf;rw[Bu,s1,←e,List.drop_append_of_le_length ?e0,List.drop_of_length_le ?e0,qo7];apply qm6;rw[Bu];simp only[HT.sIx];omega
theorem Ap5{w n:Nat}[?G]:Cf (VI ?n f) ?a3 ?hD=VI w f:=by
 ext B0;have s1:?kR ?n ?n ?hD=w:=?y1
 have s2:?kR ?n 0 ?a3=0:=rfl;unfold Cf;rw[Bu,s1,s2,List.drop_zero,qw2,←e,qk2 ?e0,qm6 ?e0]
section
variable[?aO]
noncomputable def Vm[?aO]:Sp:=fun vs H Q _=>uH fun ?eM (L r b:Addr) ?oD ?oJ ?cC (T P PB:Lat.Mat) (J:?xX)=>iF (vs=[v,?y w,?j L]) (?CG H T) (LX H CL L r b sv n n (P,PB) N) (n<=60) ?j1 (fF n ?n J) ((∀t,J 0 t (?oS w T P,PB))) ((∀i t s,J i t s->?i1)) (∀(tp D L' r' b':Addr) (as:?d2) [?F] [?a5] (H':Hp),?aU->J n t s->Ed K H' tp [?j D,?j L']->TA H' D as n w s.1->LX H' CL L' r' b' ?a3 n n (fun x a=>s.1 x ?V,s.2) N->?AH->H L'=none->?yN->?t5->?rN)
noncomputable def So:Sp:=fun vs H Q _=>V6 fun(c:Addr) (W st:Nat) (u:?h)=>Dn (vs=[?j c]) (SqL K H c (VI W u)) (?wL) ?iG (Q (?y (st:Int)) H)
noncomputable def Ko[?e1]:Sp:=fun vs H Q _=>fJ fun ?b3 ?hL ?jO ?dT ?iY (cnt:Nat) ?dS (i f:Nat)=>Ve (vs=[?a6,?jH,?y f]) (?w0) ?jV (f<=cnt) ((i<f\/cnt<=i)) (Hds W t f cnt s.1) (AZ n W t i f cnt s) (∀H',?CK cnt (?dR t i f s (cnt-f))->?aC)
noncomputable def Xf[?e1]:Sp:=fun vs H Q _=>Ex9 fun ?b3 ?hL ?jO ?dT ?iY ?nS ?dS=>B6 ?jN (?CH ?g s) (IE n W t i s) (∀H',?CK ?g (?nE t i s ?g)->?aC)
noncomputable def dI[?e1]:Sp:=fun vs H Q _=>fJ fun ?b3 ?hL ?jO ?dT ?iY (?d i:Nat) ?dS (Nx:?eL)=>Hq (vs=[?a6,?y ?d,?jH]) (?CH i s) (?c5) ?jV (PV n W t ?d i s Nx) (∀H' s',?CK i s'->Nx s'->?aC)
noncomputable def Xg[?e1]:Sp:=fun vs H Q _=>mJ fun ?b3 ?hL ?jO ?dT ?iY ?nS ?dS (I:?vB)=>Hq (vs=[?a6,?jH]) (?CH i s) ?jV (?v2) ((∀j,j<i->t j<W)) (∀H' spot st s',?aK->?n9->?kS->(?i4)->SX CS H0 H' p q M n W ?jC ?g (?E3 i)->?aC)
noncomputable def DI[?e1]:Sp:=fun vs H Q _=>V6 fun ?AB (r b:V)=>Fc (vs=[?a6,r,b]) (?CL CS []) (∀q H' fs,H q=none->fs=putF ?v5 (?j q) (?wZ)->?o5->?F4 q []->H' p=?e (?a7 CS dx fs)->?aC)
universe e9
universe Hb
namespace L2
open PySem PySem.Spec PyProof.Rows PySem.SeqAt
section
variable{X:Cx}{n:Nat}{K:W.Frag}
theorem MC(hc:?zB):?CB X.K:=by
 intro Af s σ H xs us Q I r h;obtain⟨p,bs,rfl,hq,q⟩:=h;obtain⟨u,rfl,ru⟩:=Vf r;cases ru;obtain⟨its,rv,pl,hz⟩:=I.list hq;have hh:X.A.handled=none:=I.ok.hd hc
 have rel:∀(i:Nat) (v:Value),its.toArray[i]?=?e v->∃b,?hV=?e b/\v=.bool b:=fun i v e=>by
  have e':its[i]?=?e v:=by simpa using e
  have hlt:i<its.length:=(?oO e').1;have l1:=rv.length;rw[qa2]at l1;have hb:?hV=?e (bs[i]'(O9m)):=by simp<;>omega
  obtain⟨u,hu,ru⟩:=rv.get (i:=i) (x:=V.bl (bs[i]'(O9m))) (by rw[qa8,hb];rfl);rw[e']at hu;cases hu;exact⟨_,hb,ru⟩
 refine call_any_walk (qt3 pl.isList ?_);refine⟨?uU,[s.heap.objs.size,p],[s.heap.objs.size],?tD,_,_,?tC,rfl,Walks.list (show X.A.in1.handled=none from hh) ?uU p ?_ its.toArray,⟨⟨_,qc2 _ rfl,rfl,rfl⟩,?_⟩,?_,fun h' tk k=>?_⟩
 . obtain⟨o,_,ho,_⟩:=pl;exact qc9 (qb3 ho)
 . exact pl.isList.at fun o e=>qa6 _ e
 . intro i v s' Q' E' hv hQ;obtain⟨b,hb,rfl⟩:=rel i v hv;dsimp only at hQ;rw[hb]at hQ;exact qj8 hQ
 . have e:(?nI ?tD).any (?tC)=bs.any id:=by
    have l1:=rv.length;rw[qa2]at l1;rw[qc3,←l1];rw[qm7,qn7,qn7];constructor
    . rintro ⟨i,hi,hx⟩;have hlt:=qe0.mp hi;have hb:?hV=?e bs[i]:=by simp
      rw[hb]at hx;exact⟨_,qd3 hlt,hx⟩
    . rintro ⟨b,hb,hx⟩;obtain⟨i,hi⟩:=qh7 hb;refine⟨i,qe0.mpr ?rY,?_⟩;rw[hi];exact hx
   rw[e];have I1:Bp X Af σ H { s with heap:=h',toks:=tk }:=I.kept (fun b o e=>k b o (by simp;exact qc9 (qb3 e)) (qa6 _ e));exact⟨.bl (bs.any id),H,I1,rfl,q⟩
theorem aV:bootBuiltins "any"=?e (.builtin "any"):=by decide +kernel
theorem Yr(hc:?zB)(hK:X.K=K:=by rfl):?CB K:=by subst hK;exact MC hc
universe e9
universe L2
namespace Hb
open PySem L2
noncomputable def wG:?b8 Str:=["straighten","step","put_in_order","share"]
section
variable{K:W.Frag}{H H':Hp}
theorem Yz{nm a:Addr}(h:a≠nm):?wK=H a:=Tc h
theorem LI{nm a:Addr}(h:a=nm):?wK=none:=Yy h
theorem uO[?kI]{a:Addr}{xs:?eU}(h:SqL K H a xs)[?kE]:SqL K H' a xs:=by
 rcases h with(h|⟨o,h⟩) | h
 . ext BC
 . ext B7
 . exact ?gQ
theorem iO[?kI][?C1][?kE]:Ed K H' a xs:=by
 rcases h with(h|⟨o,h⟩) | h
 . ext BC
 . ext B7
 . exact ?gQ
theorem Af0{nm:Addr}{ys:?eU}{o:HO}[?C1](hn:H nm=?CO ys):Ed K (upd H nm o) a xs:=by
 rcases h with(h|⟨u,h⟩) | h
 . exact ?w (?w (?s1))
 . exact ?w (?z ⟨u,?s1⟩)
 . exact ?gQ
theorem mW{m i:Nat}[?G]{x:Int}(hi:i<m):(VI m f).set i (?y x)=(Hu m fun k=>if k=i then x else f k).map ?fQ:=by
 show _=VI m _;apply qp4;intro j;rw[qr9,Bu];by_cases hj:i=j
 . subst hj;rw[?r,?i hi,Cq hi,?r]
 . rw[?k hj];by_cases h2:j<m
   . rw[Cq h2,Cq h2,?k ?q7]
   . ext BI
theorem Bc5[?kI]{v:V}[?aT]{f:?b0}(h:?CG H f)[?kE]:?CG H' f:=by
 obtain⟨a,us,rfl,hq,hl,hr⟩:=Hj h;refine EV (uO hq hp sx) hl ?k5;have e:=qa0 (l:=us) (i:=i) O9m;obtain⟨_,b,eb,hb⟩:=hr i _ e;exact⟨b,by rw[e,eb],uO hb hp sx⟩
universe e9
theorem LX.x{H H':Hp}[?kC][?kP]{q D dx:Addr}{fs:?b8 (Str × V)}[?kJ](hq:H q=?e (?a7 D dx fs))(hqp:q≠p)(sx:?jR q H H')(kp:?j5):?xU:=by
 ext pB;exact⟨⟨dx,fs,sx _ _ hqp.symm h1,h2⟩,⟨as,a1.x hq sx,a2⟩,⟨bs,b1.x hq sx,b2⟩,?bH,x.nr,x.nb,fun a ha=>kp a (x.nn a ha)⟩
theorem LX.more{H H':Hp}[?kC]{N N':?bZ}[?kJ](e:?aU)(h:∀a,N' a->N a\/?l8)(hn:∀a,N' a->H' a≠none):?DU H' N':=by
 ext pB;refine⟨?zZ,⟨as,?yZ,?EB ?l3 ?l3⟩,⟨bs,?qN,?EB ?mH ?mH⟩,?bH,?d8,?d8,hn⟩
 . exact ?y0 ?iK (a1.there.2 a ha)
 . exact ?y0 ?q6 (b1.there.2 a ha)
 . exact(h r z).elim x.nr a1.there.1
 . exact(h b z).elim x.nb b1.there.1
structure WX(K:W.Frag)(CL CW:Addr)(H0 H:Hp)(p L R nm:Addr)[?aS](M:?hS)[?cU](ns:?f8):Prop where
 ob:Og fun tv dx fs=>?CL CW fs/\Ve (?bE ("table":Str)=?e tv) (?bE ("width":Str)=?e (?i8)) (?CP "left" L) (?CP "right" R) (?CP "numbers" nm) ((∀m∈wG,?wD)) (fs.length<=10) (∀M',M=?e M'->Rep K (Td H ?y5) tv (dT n w M'))
 li:V6 fun r1 b1 r2 b2=>?z0/\?v0/\B6 (?D3 r1) (?D3 b1) (?D3 r2) (?D3 b2)
 nu:H nm=?CO (ns.map ?fQ)
 same:?oE
 fr:?l1/\?D3 L/\?D3 R/\?D3 nm
 ne:p≠L/\p≠R/\L≠R
 sm:n<=60/\w<=60
noncomputable def MK(m:Nat)(M:Lat.Mat):?f8:=((?nI m).map fun i=>?gW).filter fun x=>decide (x≠0)
theorem WX.keep[?gC]{H0 H H':Hp}[?pF][?kD][?kQ]:?CD H' M:=by
 ext AZ;exact⟨⟨tv,dx,fs,?AL,l1,l2,l3,l4,l5,l6,l7,?F6 (MY s)⟩,⟨r1,b1,r2,b2,lx.keep s,?qR,f⟩,?AR,?lG s,x.fr,?bH,?c9⟩
theorem WX.num[?gC]{H0 H:Hp}[?pF]{ns ns':?f8}(x:?zQ):WX K CL CW H0 (?EJ H) p L R nm n w M l r ns':=by
 ext AZ;have hpn:p≠nm:=E6 hp ?dQ ?aA
 have go:∀{q r b:Addr}{m:Nat}{s:?u}[?kP],LX H CL q r b ?a3 m m s N->N nm->LX (?EJ H) CL q r b ?a3 m m s N:=fun {q r b m s N} y hN=>by
  obtain⟨d2,f2,e1,e2⟩:=y.ob;obtain⟨as,a1,a2⟩:=y.rw;obtain⟨bs,b1,b2⟩:=y.bk;refine⟨⟨d2,f2,by rw[Ak (E6 e1 ?dQ ?aA)];exact e1,e2⟩,⟨as,a1.put (fun z=>y.nr ?jM) fun a ha z=>?iK ?jM,a2⟩,⟨bs,b1.put (fun z=>y.nb ?jM) fun a ha z=>?q6 ?jM,b2⟩,y.ne,y.nr,y.nb,fun a ha z=>?_⟩;by_cases e:a=nm
  . rw[e,Ab]at z;cases z
  . rw[Ak e]at z;exact y.nn a ha z
 refine⟨⟨tv,dx,fs,by rw[Ak hpn];exact hp,l1,l2,l3,l4,l5,l6,l7,?F6 (AM fun a o n e=>?E0 n)⟩,⟨r1,b1,r2,b2,go lx (?w rfl),go ly rfl,f⟩,Ab,fun a o e=>by rw[Ak (Ar e x.fr.2.2.2)];exact ?oX,x.fr,?bH,?c9⟩
theorem WX.drop[?gC]{H0 H:Hp}[?pF][?kD]:?CD H ?a3:=by
 ext pG;exact⟨⟨tv,dx,fs,hp,l1,l2,l3,l4,l5,l6,l7,?p5⟩,x.li,?dQ,x.same,x.fr,?bH,?c9⟩
theorem WX.left[?gC]{H0 H H1 H':Hp}{p L R nm r1 b1 r2 b2 r' b':Addr}[?aT]{M:?hS}{l r l':?u}[?kD](lx:?z0)(ly:?v0)[?BP]
 (s:?x3) (sx:?jR L H1 H') (h1:?D7 H1 r') (h2:?D7 H1 b') (y:LX H' CL L r' b' ?bR n n l' ?h2):WX K CL CW H0 H' p L R nm n w ?bR l' r ns/\?D0 H' r:=by
 ext pG;obtain⟨dl,fl,hL,_⟩:=lx.ob;obtain⟨dl',fl',hL',_⟩:=y.ob;obtain⟨n1,n2,n3⟩:=x.ne;have kp:Kp H1 H':=Kp.x sx hL';have lz:=(?qR).x (s _ _ hL) n3 sx kp;have s0:=?lG s;exact⟨⟨⟨tv,dx,fs,sx _ _ n1 (?AL),l1,l2,l3,l4,l5,l6,l7,?p5⟩,⟨r',b',r2,b2,y,lz,s0.free h1,s0.free h2,f3,f4⟩,sx _ _ (E6 ?dQ hL ?aA) (?AR),sx.same s0 x.fr.2.1,x.fr,?bH,?c9⟩,lz⟩
theorem WX.right[?gC]{H0 H H':Hp}{p L R nm r1 b1 r2 b2:Addr}[?aT]{M:?hS}{l r r':?u}[?kD](lx:?D6 H ?bR)(ly:?D0 H r)(f1:?D7 H0 r1)(f2:?D7 H0 b1)[?BP]
 (fr:Vc r2 b2 H H') (kp:?j5) (y:?D0 H' r'):WX K CL CW H0 H' p L R nm n w ?bR l r' ns/\?yB:=by
 ext pG;obtain⟨dl,fl,hL,hL2⟩:=lx.ob;obtain⟨as,a1,a2⟩:=lx.rw;obtain⟨bs,b3,b4⟩:=lx.bk;obtain⟨iA,c1,_⟩:=ly.rw;obtain⟨bs2,c2,_⟩:=ly.bk;have no:∀a C d f,H a=?e (?a7 C d f)->H' a=?e (?a7 C d f):=fun a C d f e=>fr _ _ (E6 e c1.2.1 ?aA) (E6 e c2.2.1 ?aA) e
 have lz:?yB:=⟨⟨dl,fl,no _ _ _ _ hL,hL2⟩,⟨as,a1.keep (fun o e=>?CC ?i2 ?i2) fun a ha o e=>?CC ?iK ?iK,a2⟩,
  ⟨bs,b3.keep (fun o e=>?CC ?hX ?hX) fun a ha o e=>?CC ?A6 ?A6,b4⟩,lx.ne,?i2,?hX,fun a ha=>kp a (lx.nn a ha)⟩
 exact⟨⟨⟨tv,dx,fs,no _ _ _ _ hp,l1,l2,l3,l4,l5,l6,l7,?p5⟩,⟨r1,b1,r2,b2,lz,y,f1,f2,f3,f4⟩,fr _ _ (?CI ly.nr) (?CI ly.nb) ?dQ,?DL f3 f4,x.fr,?bH,?c9⟩,lz⟩
theorem Pk(i:Nat)(M:Lat.Mat):MK ?g M=if ?gW=0 then ?n4 else ?n4++[?gW]:=by
 unfold MK;rw[ql3,qb0,qg3];by_cases h:?gW=0<;>simp[h]
theorem SI(i:Nat)(M:Lat.Mat):(?n4).length<=i:=by
 unfold MK;refine qa5 (qg2 _ _) ?_;rw[qa2,qj2];ext aE
structure Sb[?aS](M:Lat.Mat)[?cU](Nx:?p4):Prop where
 ex:∃J1,fF n ?n J1/\(∀t,J1 0 t (?oS w M l.1,l.2))/\(∀i t s,J1 i t s->?i1)/\∀t1 s1,J1 n t1 s1 →
  ∃J2,fF w ?c0 J2/\(∀t,J2 0 t (?oS n (fun i j=>s1.1 j i) r.1,r.2))/\(∀i t s,J2 i t s->∀j,j<i->t j<n+w)/\∀t2 s2,J2 w t2 s2 →
    Nx (fun i j=>?d4 j i) (fun x a=>s1.1 x ?V,s1.2) (fun x a=>?d4 x (n+a),s2.2)
section
variable[?aO]
noncomputable def Oj:Sp:=fun vs H Q _=>V6 fun ?eM ?cC ?kA=>Hq (vs=[v]) (?CG H M) ?hY (w<=1000) ((?h8->∀H',?aU->Q (.bl true) H')) ((¬?h8->∀H',?aU->Q (.bl false) H'))
noncomputable def DJ[?aO]:Sp:=fun vs H Q _=>zN fun ?b3 ?AB ?eM ?cC ?kA=>Ve (vs=[?a6,v,?i8]) (?oE) (?l1) (?CL CW []) (?CG H0 M) (n<=60) ?j1 (∀L R nm H',WX K CL CW H0 H' p L R nm n w ?oI ?eG ?eG []->?aC)
noncomputable def dJ[?aO]:Sp:=fun vs H Q _=>uH fun ?b3 ?iN ?cC ?kA ?h4 (ns:?f8) (Nx:?p4)=>B6 ?jN (?CD H ?oI) (Sb n w M l r Nx) (∀L' R' M' l' r' H',Nx M' l' r'->WX K CL CW H0 H' p L' R' nm n w (?e M') l' r' ns->?aC)
noncomputable def Oz[?aO]:Sp:=fun vs H Q _=>fJ fun ?b3 ?iN ?cC ?kA ?h4 (U:?v9)=>Dn ?jN (WX K CL CW H0 H p L R nm n w ?oI l r []) (Sb n w M l r (fun M' l' r'=>∃m,?nT)) ((∀m M' l' r',?nT->¬?z5->Sb n w M' l' r' (fun M2 l2 r2=>∃m',m'<m/\U m' M2 l2 r2))) (∀L' R' m M' l' r' H',?nT->?z5->WX K CL CW H0 H' p L' R' nm n w (?e M') l' r' (MK ?zS M')->?aC)
structure cV[?aS][?cW][?K][?cU]:Prop where
 p1:0<f i/\?uX<L9
 p2:f j≠0/\?AN<L9
 bl:BO n n l/\BO n n (?fN i j 1 l)
 br:BO w w r
noncomputable def WQ[?cW](g:Int)[?K]:?h:=Lat.put2 f i j g ?iE
noncomputable def ZQ[?cW](g b:Int)[?K](l:?u):?u:=?fN j i ?h1 (?fN i j 1 l)
noncomputable def QY[?cW](g a b:Int)[?K](r:?u):?u:=?o2 i j a b (-(f j / g)) ?gJ r
noncomputable def aB[?aO]:Sp:=fun vs H Q _=>ZN fun ?b3 ?iN (n w m i j:Nat) ?h4 (f:?h)=>iF (vs=[?a6,?y (i:Int),?y (j:Int)]) (?D1 l) (i<j) (j<m) (?dV) (m<=w) (?mS) ((?gM->Q .non H)) (∀g a b H',?kV->WX K CL CW H0 H' p L R nm n w ?a3 (ZQ i j g b f l) (?ER r) (Hu m (WQ i j g f))->?aC)
noncomputable def AB[?aO]:Sp:=fun vs H Q _=>uH fun ?b3 ?iN (n w m:Nat) ?h4 (f:?h) (V:?k9)=>Mn ?jN (?D1 l) (?dV) (m<=w) (V 0 f l r) ((∀d i j f l r,V d f l r->d<5*m+m*m->i<j->j<m->?mS/\(?gM->V ?O f l r)/\∀g a b,?kV->V ?O (WQ i j g f) (ZQ i j g b f l) (?ER r))) (∀d f' l' r' H',V d f' l' r'->?rE m m f'->WX K CL CW H0 H' p L R nm n w ?a3 l' r' (Hu m f')->?aC)
universe e9
structure P1[?aS](A:Lat.Mat)(Fin:?k9):Prop where
 ex:∃(U:?v9) (Y:Nat->?k9),Sb n w A ?eG ?eG (fun M l r=>∃m,?oY) ∧
  (∀m M l r,?oY->¬?h8->Sb n w M l r (fun M' l' r'=>∃m',m'<m/\U m' M' l' r')) ∧
  (∀m M l r,?oY->?h8->∃k f,MK ?zS M=Hu k f/\k<=n/\k<=w/\Y k 0 f l r) ∧
  (∀k d i j f l r,?zM->d<5*k+k*k->i<j->j<k->?mS/\(?gM->Y k ?O f l r)/\∀g a b,?kV->Y k ?O (WQ i j g f) (ZQ i j g b f l) (?ER r)) ∧
  ∀k d f l r,?zM->?o3
structure Z6(K:W.Frag)(H H':Hp)[?pQ](n w k:Nat)[?K][?cU]:Prop where
 same:?aU
 tup:Ed K H' tp ?r4
 num:?F4 nm ?zR
 left:?EE H'
 lback:?DB H'
 right:?DA H'
 rback:?EF H'
 new:∀a,a=nm\/a=r1\/a=D1\/a=D2\/a=b2->?l8/\∃us,?F4 a us/\us.length<=60
section
variable(K:W.Frag)
noncomputable def J6:Sp:=fun vs H Q _=>bB fun ?eM ?cC ?vS ?zK=>Hq (vs=[v,?i8]) (?CG H A) (n<=40) ?j1 (P1 n w A Fin) (∀[?pQ] (k:Nat) [?K] [?cU] (H':Hp),?o3->?zY->k<=n->k<=w->?uD->?rN)
noncomputable def DK:Sp:=fun vs H Q _=>bB fun ?eM ?cC ?vS ?zK=>Hq (vs=[v,?i8]) (?CG H A) (n<=40) ?j1 (P1 n w A Fin) (∀(k:Nat) [?K] [?cU] (H':Hp),?o3->?zY->k<=n->k<=w->?aU->Q (?y (k:Int)) H')
universe e9
universe Hb
namespace Hb
open Lat
section
variable[?b1]
theorem BB.bo{n W β:Nat}[?aD][?kN](hb:β<=big):?nM:=⟨(h.mono hb).1,(h.mono hb).2.1⟩
theorem DB[?g9]{R0 B0:Mat}[?s]{π b β:Nat}[?C5](hW:W=w+n)(dl:Fr n w R0 B0)(bb:?C9 β (R0,B0))(hb:?rA)(hπ:?lR)(zW:?xL)
 (hG:∀spot (s:?M) st,?aK->?uV->Hn W (s.1 i) st->G st)
 (hd:∀t1 Y R1 B1 R2 B2,uF n W w i G R0 B0 t1 Y R1 B1->Ot n W w i R1 B1 t1 0 R2 B2->∀j,j<=i->(R2 j (t1 j)).natAbs<L9) :
 ∃I,ZI n W i t (R0,B0) I/\∀spot st s',?aK->?n9->?kS->(?i4) →
   IE n W ?a0 i (?dA)/\G st/\uF n W w i G R0 B0 ?a0 ?dG (?dA).1 (?dA).2 ∧
   Ot n W w i (?dA).1 (?dA).2 ?a0 0 (?kX).1 (?kX).2 ∧
   ?C9 (?eY) (?kX):=by
 have hi:=H.hi
 have VP:∀spot,?aK->?iT<=?iB:=fun spot hs=>by
  unfold F1;exact qa5 (qb5 _ hs) (qe8 _ _)
 refine⟨fun spot s=>?uV/\?C9 (β+?iT) s,⟨⟨Dt.start H,by rw[Nat.zero_mul];exact bb⟩,?_,?_,?_⟩,?_⟩
 . rintro spot s _ ⟨p,_⟩;obtain⟨c,hc,h0⟩:=(p.good.dual dl).row hi;exact⟨w+c,O9m,h0⟩
 . rintro spot s hs ⟨p,q⟩ hz;refine⟨p.skip hz,q.mono ?_⟩;rw[qf8];omega
 . rintro spot s hs ⟨p,q⟩ hz h0;have JE:=VP ?q hs;rw[qf8,qf6]at JE;have en:β+?q*?c6=β+?iT+?c6:=by rw[qf8,qf6];omega
   have lA:?E5 ?lY ?Z:=by rw[p.old ?d _ ?f hs];exact H.hd ?d hs
   have lB:=p.pv ?d ?f hs;refine⟨?dN q O9m,?EM ⟨H.lt j hj2,p.pos j hj2,uZ (π:=π) ?_ O9m⟩,⟨h0,uZ lB O9m⟩,?g3,fun g a b' sh=>?_⟩
   . rw[p.old j _ hj1 hj2];exact H.hd j hj2
   . obtain⟨m1,m2,m3⟩:=p.meetAdd H hs hz hk q;refine⟨?rZ,m1,?_⟩;rw[en];exact m3 _ O9m
   . obtain⟨m1,m2,m3,m4⟩:=p.meetBlend H hs hz (sh.blend (p.pos ?d hs) lA lB) q;refine⟨?rZ,?EN m4,m1,?_⟩;rw[en];exact m4 _ O9m
 . rintro spot st s' hs ⟨p,q⟩ hB hex;have hGs:=hG ?d s' st hs p hB;obtain⟨e1,e2,e3,e4,e5⟩:=rK H p hs hB.1 hB.2.1 hB.2.2 hGs zW hex q;refine⟨fun d hd'=>⟨?EM ?_,fun m hm=>?dN (e5 d hd' m O9m) hb⟩,hGs,e1,e2,e4 _ ?f⟩;obtain⟨dn,_,_⟩:=Za e1 hi (e3.mono (qu8 (VP i ?f) β)) d O9m;have hh:=hd _ _ _ _ _ _ e1 e2 j O9m;rw[e2.hd j ?c]at hh;have hx:=dn.hd j O9m;refine⟨e1.lt j O9m,(dn.s0).pos j O9m,?_⟩;rw[hx];exact hh
universe e9
noncomputable abbrev JF[?aS](M:Mat):?zF:=fun i t s=>D6 n ?n w i ?jF M one t s.1 s.2
theorem Vu{n w b0 D π b β:Nat}{M:Mat}(hM:∀r c,r<n->?cI->?x7)(dets:Ou n ?jF M D)(h1:?oV)(h2:n*D<=?U)(h3:b0<=π)[?BY](hbig:∀i,i<n->?rA)(hπ:?lR)(dl:Fr n w M one) :
 fF n ?n (JF n w M):=by
 refine ?xZ;have iD:?oU:=qa5 (qb5 _ (qd4 hi)) h2;have H:=lQ hM dets hJ hi h1 iD h3 h4;have bb:BB n ?n (fun _=>False) 0 β (s.1,s.2):=Rz hM dets (fun k a=>rfl) hJ (qd4 hi) iD h4 hβ hβ2
 obtain⟨I,P,e⟩:=DB H rfl (hJ.good.dual dl) bb (hbig i hi) hπ hJ.pg (fun _ _ _ _ _ hB=>hB.2.2) fun t1 Y R1 B1 R2 B2 I1 D1 j hj=>by
  have:=?DF hJ.next (show i+1<=n from hi);exact uZ (qa5 ?x h1) O9m
 refine⟨I,P,?tB⟩;obtain⟨e1,_,e3,e4,_⟩:=e ?d st s' hs hI hB hex;exact⟨e1,hJ.next e3 e4⟩
theorem JF.lt[?aT]{M:Mat}:∀i t s,JF n w M i t s->?i1:=fun _ _ _ h j hj=>?lU
noncomputable def JL(n w r:Nat)(M B0:Mat)[?kK](π b η β:Nat):?zF:=fun i t s =>
 (i<=r/\?CN i ?bP/\?x5) ∨
 (r<=i/\?CN i ?jF/\?y9)
theorem JL.lt{n w r:Nat}{M B0:Mat}[?g8]{π b η β:Nat}:∀i t s,?DQ i->?i1:=fun _ _ _ h j hj=>by
 rcases h with⟨_,h,_⟩|⟨_,h,_⟩<;>exact h.st.st.lt j hj
theorem Vq{n w r E π b η β:Nat}{e:Int}{T P PB:Mat}[?g8][?gD](he0:0<e)[?kF][?C6][?C0]
 (hβ:?n7) (hbig:β+?eC<=big) (hE:E<=?Z) [?kM] (hb:n*E<=?U) (hπb:π<=b) (hπ:?lR) (hη9:η<=8990) :
 fF n ?n (JL n w r ?T PB kt hd π b η β):=by
 have rn:=g.sq.rn;have dets:=V2 (P:=P) g.dets;have yM:∀{i:Nat}[?s][?aD],i<=r->?q9->?u0:=fun hi h j hj=>uZ (qa5 (h.st.headD dets hi hj) hE) O9m
 have hηN:?vE:=fun j h1 h2=>by
  ext kL;have q:=?vH;ext AV
  exact_mod_cast this
 refine ?xZ;by_cases hir:i<r
 . obtain⟨_,h,bb⟩:i<=r/\?q9/\?x5:=by
    rcases hJ with hJ|⟨h,_⟩
    . exact hJ
    . omega
   have H:=LC g (qe8 w n) h hir hE he (qa5 (qb5 _ (qd4 hi)) hb) hπb;have tm:?v8<=?b9:=kH π b hir;have tm':?v8=?eZ+?iB:=rfl;have tn:?b9<=?eC:=qe8 _ _
   have hG:∀spot (s':?M) st,?aK->Dt n ?n w i ?bP s.1 s.2 t π b ?d s'.1 s'.2->Hn ?n ?rD st->st<w:=fun spot s' st hs p hB=>by
    obtain⟨c,hc,h0⟩:=qU he0 g.sq (fun k c _ hc=>?dE) hir ((h.st.good.mono (qn9 i)).trans p.good) ?f dl;rcases qg0 c st with z | z
    . exact ?aG (hB.1 c z) h0
    . exact qc0 z hc
   obtain⟨I,Pu,ev⟩:=DB (C:=?oL) (δ:=?p3) (β:=β+?eZ) H rfl (h.st.good.dual dl) bb O9m hπ ?lW hG fun t1 Y R1 B1 R2 B2 I1 D1 j hj=>by
    have:=?DF ?mT (show i+1<=r from hir);exact uZ (qa5 ?x hE) O9m
   refine⟨I,Pu,?tB⟩;obtain⟨e1,e2,e3,e4,e5⟩:=ev ?d st s' hs hI hB hex;exact⟨e1,?w ⟨hir,h.next hir e2 hs e3 e4,by rw[tm',←qs6];exact e5⟩⟩
 . have QJ:r<=i:=O9m
   obtain⟨h,ab,bb,h9⟩:?DM ?jF/\?y9:=by
    rcases hJ with⟨h1,h,bb⟩|⟨_,h⟩
    . have e:i=r:=O9m
      subst e;refine⟨h.wide ?wI,?_,?_,yM ?f h⟩
      . rw[qh5,Nat.zero_mul];exact uD bb rn hβ
      . rw[qh5];exact bb
    . exact h
   have hsd:r+?jE=i:=O9m
   have row:∀c,?f6=?yX:=?F7 ?oW;have zero:∀c,c<kt i->?f6=0:=fun c hc=>by rw[row];exact ?cD i c QJ hi hc
   have hd0:0<s.1 i ?aX:=by rw[row,?d5 i QJ hi];exact ?g2 i QJ hi
   have ktW:=K.lt i QJ hi;have bg:Hn ?n (s.1 i) ?aX:=⟨zero,O9m,ktW⟩
   have em:?rH=?vM+(?AP+(r+?jE)+3):=rfl;have emo:?rH<=?gO:=lS _ _ _ O9m;have tn:?eC=?b9+?gO:=rfl;rw[hsd]at em;refine⟨fun _ s'=>s'=s,⟨rfl,?_,fun _ _ _ hs _=>hs,?_⟩,?_⟩
   . rintro spot _ _ rfl;exact⟨kt i,ktW,O9m⟩
   . rintro spot _ hs rfl hz h0;exact ?aG (?lP K QJ hi hs ?f) h0
   . rintro spot st s' hs e hB hex;have e:=e.symm;subst e;have est:=hB.one bg;subst est
     have esp:spot=i:=by
      rcases qg0 ?d i with z | z
      . exact ?aG (?lP K QJ hi z (qd4 (hex z))) hB.2.1
      . omega
     subst esp
     have Bc4:insS ?d ?d ?jG s=s:=by
      have m1:?gY ?d ?d s=s:=by
       show(?b5 s.1 ?d ?d,?b5 s.2 ?d ?d)=s;rw[Qa,Qa]
      rw[insS,m1,?p]
     rw[Bc4];obtain⟨k1,k2,k3⟩:=h.last K QJ hi (fun c hc=>hc) ktW (C:=?oL) (δ:=?p3) bb (fun k hk=>ab k ?d hk ?f hi);have hbd:?yD<=big:=O9m
     have st':=k1.st.st
     have hh:∀d,d<=?fP->∀j,?n5->(?aH (?cQ t ?d ?jG) ?d s d).1 j (?iJ)=?oC:=fun d hd j hj=>by
      obtain⟨l1,_⟩:=k2 d hd;have:=l1.rows j (?iJ);rw[this];split
      . rename_i z
        have tl:?iJ<?lA:=by
         have:=st'.inc j ?d z.2 O9m;have e:?cQ t ?d ?jG ?d=?lA:=?vC
         omega
        rw[zero _ tl,qf3,qw6]
      . rfl
     have hs9:∀j,?n5->?EI ?oC L9:=fun j hj=>by
      unfold insT;rcases qg0 j ?d with z | z
      . ext aR;exact h9 j z
      . have:j=spot:=O9m
        subst this;rw[?p,?r,row,?d5 j QJ hi];exact uZ (hηN j QJ hi) O9m
     have hpos:∀j,?n5->0<?oC:=fun j hj=>by
      have:=st'.pos j O9m;rw[hh ?q ?f j hj]at this;ext Q
     refine⟨fun d hd=>⟨?EM ⟨st'.lt j hj2,by rw[?pW];exact hpos j O9m,by rw[?pW];exact ?sR⟩,fun m hm=>?_⟩,?z ⟨O9m,k1,?_,?_,fun j hj=>by rw[hh ?q ?f j ?c];exact ?sR⟩⟩
     . rcases qg0 m d with z | z
       . have:=k3 d O9m m z;rw[this];exact ?dN (k2 d O9m).2 hbd
       . have e:m=d:=O9m
         subst e;exact ?dN (k2 ?jW O9m).2 hbd
     . have:=h.above K QJ hi hηN ab (?rS).1;rw[?u6,qf8,qf6];have e:?cK+((spot-r)*?bA+?bA)=?E7 η+1:=O9m
       rw[e];ext Q
     . rw[?u6,em];have:=(?rS).2;rw[show ?g0+(?AC+(?E7 spot+3))=?yD by omega];ext Q
theorem NU{M:Mat}{k:Nat}(hp:∀x,x<k->0<M x x):∀m,k<=m->(∀x,k<=x->x<m->M x x=0)->MK m M=Hu k ?AG:=by
 have base:∀j,j<=k->MK j M=Hu j ?AG:=fun j=>by
  induction j with
  | zero=>intro _;rfl
  | succ j ih =>
    intro hj;have:=?wO;rw[Pk,?p,?fC,Yn]
 intro m
 induction m with
 | zero=>intro h _;exact base 0 ?cA▸(by rw[?CJ k 0])
 | succ m ih =>
   intro h hz;by_cases e:k=m+1
   . subst e;exact base _ ?f
   . rw[Pk,?i (hz m ?c ?c),ih ?c fun x h1 h2=>hz x h1 ?c]
noncomputable abbrev tZ:Nat:=67000000
noncomputable def Nf(n:Nat)[?bU]:Prop:=∀a b,a<n->b<n->pT n s.2 s.1 a b=?d1
theorem Nf.one(n:Nat):Nf n ?eG:=fun a b ha hb=>by
 show ?D5 (fun k=>?m5 k a*?m5 k b)=_;rw[?W ha fun k _ hk=>by unfold Lat.one;rw[?k hk,qj6]];unfold Lat.one;rw[?r,qd1]
theorem Nf.go[?aT]{T:Mat}{l:?M}[?bF](h:Nf n l)(e:∀a b,pT n B R a b=pT n l.2 (?o w T l.1) a b):Nf n (?bJ,B):=fun a b ha hb=>by
 have:=e a (w+b);rw[←h a b ha hb];refine ?w9 ?x ?_;exact Ao fun k _=>by rw[beside_hi]
theorem xF[?cW]:(one i j).natAbs<=1:=by
 unfold one;split<;>decide
theorem aY{n w W b:Nat}{T P:Mat}(hT:∀i c,i<n->c<w->?uK<=?U)(hP:∀i c,i<n->c<W->(P i c).natAbs<=?U):∀i c,i<n->c<w+W->?E5 ?yX ?U:=fun i c hi hc=>by
 unfold beside;split
 . rename_i h;exact ?z2
 . exact ?uT
theorem Vz{n w W b:Nat}{T P:Mat}(hT:∀i c,i<n->c<w->?uK<?U)(hP:?I n W b P):?I n (w+W) b ?T:=fun i c hi hc=>by
 unfold beside;split
 . rename_i h;exact ?z2
 . exact ?uT
theorem V0{n w W b:Nat}{R:Mat}(h:?I n (w+W) b R):?I n W b ?bJ:=fun i c hi hc=>h i ?dP hi O9m
theorem Lr{n W b b':Nat}{R:Mat}(h:?I n W b R)(hb:b<=b'):?I n W b' R:=fun i c hi hc=>qb4 (h i c hi hc) (qe7 ?bG hb)
theorem XX{e:Int}{D π:Nat}(h:e<=D)(hD:?oV)(h0:0<e):e.natAbs.log2<=π/\?nU:=by
 have h1:?nU:=by
  have:e.natAbs<=D:=O9m
  exact qa5 ?x hD
 refine⟨?_,h1⟩;have:e.natAbs.log2<π+1:=(Nat.log2_lt O9m).mpr (qc0 h1 (?iR));omega
theorem JL.done{n w r π b η β c:Nat}{M B0:Mat}[?g8][?s][?aD](rn:?bL)(h:?DQ n)(hc:?eC<=c):(∃G,?CN n G)/\?I n ?n ?fM s.1/\?I n n ?fM s.2:=by
 have e:?eC=?b9+?gO:=rfl;rcases h with⟨h0,h,bb⟩|⟨h0,h,_,bb,_⟩
 . have en:n=r:=O9m
   subst en;have:=?gS (show β+Eh π b n<=β+c by omega);exact ?yP
 . have:=?gS (show _<=β+c by omega);exact ?yP
universe Hb
namespace Lat
open Hb
noncomputable def Fi(f:?m):?m
 | 0=>0
 | n+1=>?p1
theorem Lg{f g:?m}:∀{n:Nat},(∀k,k<n->f k<=g k)->?k6<=?lX
 | 0,_=>?bM
 | n+1,h=>Nat.add_le_add (Lg ?hH) ?xA
theorem Tv[?K]:∀n:Nat,(?D5 f).natAbs<=Fi (fun k=>?sH) n
 | 0=>?bM
 | n+1=>qa5 (qf4 (?D5 f) (f n)) (Nat.add_le_add_right (Tv f n) _)
theorem W8(f:?m)(c:Nat):∀n:Nat,Fi (fun k=>f k*c) n=?k6*c
 | 0=>by show 0=0*c;omega
 | n+1=>by show Fi _ n+f n*c=(?p1)*c;rw[W8 f c n,qf8]
theorem iN{f g:?m}{c:Nat}:∀{n:Nat},c<n->f c=f c->(∀k,k<n->k≠c->f k=g k)->g c=0->?k6=f c+?lX
 | 0,h,_,_,_=>O9m
 | n+1,h,e,hk,h0=>by
   show ?p1=f c+(?lX+g n)
   by_cases z:c=n
   . subst z;have:Fi f c=Fi g c:=qi4 (Lg fun k hk'=>ql9 (?qY)) (Lg fun k hk'=>ql9 (?qY).symm);omega
   . have:=iN (n:=n) O9m rfl (fun k hk'=>hk k O9m) h0;have:=hk n O9m O9m;omega
theorem z6{i:Nat}[?bF][?s](P:?wV){a m:Nat}(h:∀j,j<i->?AS<=m*?cL):?nB:=by
 intro j
 induction j using Nat.strongRecOn with
 | _ j ih =>
   ext AT;have hs':?vQ<=m*?cL:=hs
   have b:=bK (f:=?fX) (m:=m) (h:=?cL) (j:=j) fun k hk=>by
    ext B2
   have c:?yC:=qa5 ?sU (by rw[qw5];exact b);rw[qb2]at c;exact ?w7
section
variable{n w r E:Nat}{e:Int}{T P PB R RB:Mat}[?aN]
theorem oG[?gD]{x:?h}{v:?h}(hx:∀c,c<w->v c=?wM)(hv:∀c,c<w->(v c).natAbs<=e.natAbs):?xD:=by
 have rn:=g.sq.rn;have rw':=g.sq.rw
 let a:Nat->?m:=fun c k=>if ?m2 then ?gP*?n3 else 0
 have step:∀c,c<r->Fi (a c) n=a c c+?w4:=fun c hc=>iN O9m rfl (fun k hk ne=>by
  show(if ?m2 then _ else 0)=if ?jX then _ else 0
  by_cases z:?m2
  . rw[?bQ,?i ⟨?lH,z.2⟩]
  . rw[?dK,?p]) (by show(if c+1<=c/\c<r then _ else 0)=0;ext a4)
 have top:∀c,c<r->a c c<=e.natAbs+?w4:=fun c hc=>by
  have h1:=hx c O9m;have h2:=P6 (f:=?gL) (g:=fun k=>if k=c then ?eO else ?f9) (n:=n+2) (p:=c) (q:=n+1) O9m O9m O9m
  have e1:?wM=?eO+?u2:=by
   have:∀m,c<m->?dV->?j0=?eO+Al (fun k=>?f9) m:=fun m=>by
    induction m with
    | zero=>intro h;omega
    | succ m ih =>
      intro h hm;show Al _ m+?yS=?eO+(Al _ m+if c+1<=m/\m<r then ?yS else 0)
      by_cases z:c=m
      . subst z;have z1:Al (?gL) c=0:=Bj fun k hk=>by rw[g.low k c ?c ?c hk,qf3]
        have z2:Al (fun k=>?f9) c=0:=Bj fun k hk=>?rG
        rw[z1,z2,?p];omega
      . rw[ih ?c ?c];by_cases y:m<r
        . rw[?i ⟨?lH,y⟩];omega
        . rw[?p,?nL m c ?c ?c ?c,qf3];omega
   exact ?x n O9m ?f
  have e2:(?eO).natAbs<=e.natAbs+(?u2).natAbs:=by
   have:=hv c O9m;rw[h1,e1,Int.add_comm]at this;exact Wq ?x
  refine qa5 (ql9 ?_) (qa5 e2 (qu8 (qa5 ?zJ ?wP) _))
  . show(if c<=c/\c<r then _ else 0)=_;rw[?i ⟨?bM,hc⟩,qb2]
  . show(?f9).natAbs<=if ?jX then ?gP*?n3 else 0
    by_cases z:?jX
    . rw[?bQ,?bQ,qb2];obtain⟨r1,r2⟩:=g.red c k O9m z.2;exact ?hK
    . rw[?dK,?dK];ext aE
 have all:∀d,d<=r->Fi (a (r-d)) n+e.natAbs<=?mE:=fun d=>by
  induction d with
  | zero =>
    intro _
    have:Fi (a (r-0)) n<=Fi ?cZ n:=Lg fun k _=>by
     show(if r-0<=k/\k<r then _ else 0)<=0;ext a4;ext aE
    have z:∀m,Fi (fun _=>0) m=0:=fun m=>by induction m with
     | zero=>rfl
     | succ m ih=>show Fi ?cZ m+0=0;omega
    rw[z]at this;rw[qw3];omega
  | succ d ih =>
    intro hd;have i1:=?a8;have s:=step (r-?O) O9m;have t:=top (r-?O) O9m;rw[show r-?O+1=r-d by omega]at s t;have p2:?DD ?O=?mE+?mE:=?yV
    omega
 have fin:=all r ?f;rw[qh5]at fin
 have le1:?yI<=?sI:=Lg fun k hk=>by
  show _<=if 0<=k/\k<r then _ else 0
  rw[?i ⟨?a2,hk⟩];have:=?v1;exact ?rC
 have le2:∀m,r<=m->?sI<=?tH:=fun m=>by
  induction m with
  | zero=>intro h;rw[?CJ r 0];ext aE
  | succ m ih =>
    intro h;by_cases z:r=m+1
    . rw[z];ext aE
    . have:=?a8;show _<=?tH+a 0 m;omega
 have:=le2 n rn;omega
theorem OG[?kF](he:1<=e.natAbs){x:?h}{v:?h}(rn:?bL)(hx:∀c,?cI->v c=?CM ?e7 n)(hv:∀j,?D->j<n->(v ?Y).natAbs<=?bX)(h0:?xD):Fi ?gI n<=?A7:=by
 have one:∀j,?D->j<n->(x j).natAbs<=1+?kT:=fun j h1 h2=>by
  ext kL;have e1:=hx ?Y (?DN K.lt);rw[Mq (j:=j+1) ?c fun k h3 h4=>by rw[?cD k _ ?c h4 (?dJ j k h1 ?c h4),qf3]]at e1;have e2:v ?Y=?mI+x j*?bI:=by rw[←?mU];exact e1
  have e3:(?mI).natAbs<=?kT*?bX:=by
   rw[←W8];refine qa5 (Tv _ j) ?wP;obtain⟨r1,r2⟩:=?g1 k j h1 hk h2;show(x k*_).natAbs<=_;rw[qb2];exact ?hK
  have e4:=?DN hv
  have e5:(x j*?bI).natAbs<=(1+?kT)*?bX:=by
   rw[qf8,qf6];refine qa5 (Wq (a:=?mI) (m:=?bX) ?_) (qu8 e3 _);exact qa5 (ql9 (?t4 Int.natAbs e2.symm)) e4
  rw[qb2]at e5;exact qq8 e5 O9m
 have all:∀d,r+d<=n->?vN+1<=?lI:=fun d=>by
  induction d with
  | zero=>intro _;rw[qw3];show Fi _ r+1<=_;omega
  | succ d ih =>
    intro hd';have i1:=?a8;have o:=one ?j7 O9m O9m;show ?vN+(x ?j7).natAbs+1<=_;rw[qg7];have:2 ^ d*2*?oP=?lI+?lI:=?B
    omega
 have fin:=all ?hG O9m;rw[?EL r ?hG]at fin
 have p1:?kW*?oP=?iW+?kW:=by
  rw[Nat.mul_add,Nat.mul_one,←Nat.mul_assoc,←qd8]
  congr 3
  omega
 have p2:?kW<=?iW:=qa5 (qe7 ?bG O9m) (qi0 _ he);have p3:?A7=?iW+?iW:=?yV
 omega
theorem Qn.le{M:Mat}{W:Nat}[?pS]{i j:Nat}[?aF](h1:?D)(h2:j<n):(M i ?Y).natAbs<=?bX:=by
 ext kL;rcases qm9 i j with z | z | z
 . obtain⟨a,b⟩:=?g1 i j h1 z h2;omega
 . rw[z,?mU];ext aE
 . rw[?cD i _ ?c hi (?dJ j i h1 z hi)];exact ?a2
theorem y4{π β:Nat}[?e5](he0:0<e)[?kM][?gD](g':?rJ)[?kF](K':?xP)(s:?r2)(b1:?I n n β P) :
 ?I n n (β+(2*n+π+2)) (?bJ):=fun i a hi ha=>by
 obtain⟨x,hx⟩:=(?lM).1 i hi
 have h0:=oG g (x:=x) (v:=R i) (fun c hc=>by rw[?m7];exact Ao fun k _=>by rw[?dE]) fun c hc=>by
  obtain⟨a,b⟩:=g'.le c i hc hi;show(tr R c i).natAbs<=_;omega
 have h1:=OG K (e:=e) O9m g.sq.rn hx (fun j h1 h2=>K'.le hi h1 h2) h0;show(R i ?V).natAbs<_;rw[hx ?V ?c];refine qc0 (qa5 ?zJ (qa5 (Lg (g:=fun k=>?gP*?a1) ?g3) ?_)) (m:=2 ^ ?A*?Z*?a1) ?_
 . show(x k*_).natAbs<=_;rw[qb2,beside_hi];exact qe2 _ (qd4 (b1 k a hk ha))
 . rw[W8];exact qb5 _ (qa5 h1 (qe2 _ he))
 . rw[←qd8,←qd8];ext pP
theorem W6{π β:Nat}(he0:0<e)[?kM][?AU][?C6](b2:?I n n β PB) :
 ?I n n (β+(2*n+π+2)) RB:=fun i a hi ha=>by
 have ex:∀k,∃y:?h,k<n->∀c,?cI->?e7=?D5 (fun i=>y i*?j2):=fun k=>by
  by_cases hk:k<n
  . obtain⟨y,hy⟩:=(?lM).2 k hk;exact⟨y,fun _=>hy⟩
  . exact⟨?m6,fun z=>?aG z hk⟩
 let y:?b0:=fun k=>?qD (ex k)
 have hy:∀k,k<n->∀c,?cI->?e7=?D5 (fun i=>?iC*?j2):=fun k=>?qP (ex k)
 have ybd:∀k,k<n->(?iC).natAbs<=?c7*e.natAbs:=fun k hk=>by
  refine z6 (R:=R) (B:=fun i _=>?iC) (t:=t) (a:=0) (i:=n) ⟨fun j l _=>?iZ j l,fun j c _=>?k2 j c,fun j _=>?mG j,fun l j _=>?o8 l j⟩ (?dU) i hi;rw[←hy k hk ?H (?hF)];have p:=?lC;by_cases z:j<r
  . rw[?dW ?uF];obtain⟨q1,q2⟩:=g.le k ?H hk ?uF;exact qa5 (show(T k ?H).natAbs<=e.natAbs by omega) ?hR
  . obtain⟨q1,q2⟩:=ker j O9m hj;rw[q2];rw[q1];exact qa5 (K.le hk O9m hj) (qm5 _ O9m)
 have rel:RB i a=?kY:=by
  have z:∀c,?cI->?s2=0:=fun c hc=>by
   have e1:?D5 (fun l=>RB l a*?cN)=?p6:=s.pt a c
   have e2:?p6=?D5 (fun l=>?fS*?cN):=by
    have:?p6=?D5 (fun k=>Al (fun l=>?r9*?cN) n):=Ao fun k hk=>by
     rw[hy k hk c hc,←Bh];exact Ao fun l _=>?B
    rw[this,D8];exact Ao fun l _=>by rw[Gm]
   have e3:?s2=?D5 (fun l=>RB l a*?cN+(-1)*(?fS*?cN)):=Ao fun l _=>?B
   rw[e3,De,Bh,e1,e2];omega
  have d:=s.dual dl
  have q:?mV=RB i a-?kY:=by
   have:?mV=?D5 (fun c=>?F5 (R l ?dP*RB i c)):=Ao fun c _=>by
    rw[←Gm];exact Ao fun l _=>?m9
   rw[this,D8]
   rw[?W hi fun l hl ne=>by
    rw[Bh];have:=d l i hl hi;unfold pD at this;rw[this,?eF,qf3]]
   rw[Bh];have:=d i i hi hi;unfold pD at this;rw[this,?r,qp5]
  have q0:?mV=0:=Bj fun c hc=>by rw[z ?dP ?c,qj6]
  omega
 rw[rel]
 have m1:(?kY).natAbs<=n*(?c7*?Z*?a1):=Ow fun k hk=>by
  rw[qb2];exact qf0 (qa5 (ybd k hk) (qe2 _ he)) (qd4 (b2 k a hk ha))
 refine qc0 m1 (qc0 (qb5 _ (qd4 (qq2 (n:=n)))) ?_);rw[←qd8,←qd8,←qd8];ext pP
theorem Dj.same{W n:Nat}{R:Mat}[?s](st:Dj W n R t){v:?h}(hv:In W n R v){j:Nat}(hj:j<n)(h0:∀k,k<j->?jD=0)(h1:v ?H=?aV)(h2:∀k,j<k->k<n->0<=?jD/\?jD<R k ?fB):∀c,c<W->v c=R j c:=by
 obtain⟨x,hx⟩:=hv
 have hu:∀c,c<W->v c-R j c=?xW:=fun c hc=>by
  have e:?xW=?D5 (fun k=>x k*?h6+(-1)*((?k4)*?h6)):=?nN
  rw[e,De,Bh,Dk,?i hj,←?nV];omega
 have all:∀k,k<n->(x k-?k4)=0:=fun k=>by
  induction k using Nat.strongRecOn with
  | _ k ih =>
    intro hk;have p:=?mG k hk;have e:=hu ?fB (st.lt k hk)
    rw[?W hk fun i hi ne=>by
     rcases qg0 i k with z | z
     . rw[ih i z hi,qj6]
     . rw[?k2 i _ hi (?iZ k i ?c hi),qf3]]at e
    have small:(?jD-R j ?fB).natAbs<?o6:=by
     rcases qm9 k j with z | z | z
     . rw[h0 k z,?k2 j _ hj (?iZ k j z hj)];omega
     . subst z;rw[h1];omega
     . have a:=h2 k z hk;have b:=?o8 j k z hk;omega
    rw[e,qb2]at small;refine qg5 fun ne=>?_;have:1*?o6<=(x k-?k4).natAbs*?o6:=qb5 _ O9m;omega
 intro c hc;have:=hu c hc;rw[Bj fun k hk=>by rw[all k hk,qj6]]at this;omega
theorem kC[?AU]{j:Nat}(h1:?D)(h2:j<n):∀c,?cI->R j c=?E4 j c:=fun c hc=>by
 refine(st.same ((?lM).2 j h2) h2 (?g3) ?_ (fun k hk hn=>?_) c hc).symm
 . by_cases z:k<r
   . rw[?dW ?s0];exact ?nL j _ h1 h2 ?s0
   . rw[(ker k ?c ?c).1];exact ?cD j _ h1 h2 (?dJ k j O9m hk h2)
 . obtain⟨a,b⟩:=?DN ker;rw[b,a];exact ?mU
 . obtain⟨a,b⟩:=ker k O9m hn;rw[b,a];exact ?g1 j k O9m hk hn
universe e9
universe Lat
namespace Hb
open Lat
section
variable{n w b0 D π b β D2 π2 b2 β2 C1 C2:Nat}{A:Mat}
universe e9
noncomputable def Zw(n:Nat)(f:?sB):Bool:=(?nI n).all f
theorem K9{n:Nat}{f:?sB}(h:Zw n f=true):∀i,i<n->f i=true:=fun i hi=>qe9.mp h i (qe0.mpr hi)
universe Hb
namespace Lat
open Hb
theorem BL:∀(k:Nat) [?e6],(∀x y,x<=k->y<=k->?k0)->∃x,x<=k/\k<=s x
 | 0,s,_=>⟨0,?bM,?a2⟩
 | k+1,s,h=>by
   apply qn6;intro no
   have lt:∀x,x<=k+1->s x<=k:=fun x hx=>by
    rcases qg0 k ?iH with z | z
    . exact ?aG ⟨x,hx,z⟩ no
    . exact z
   obtain⟨x,hx,hk⟩:=BL k (fun x=>if s x=k then s ?J else s x) fun x y hx hy e=>by
    by_cases h1:s x=k
    . by_cases h2:s y=k
      . exact h x y O9m O9m (h1.trans h2.symm)
      . rw[?b4,?b7]at e;have:=h ?J y ?f O9m e;omega
    . by_cases h2:s y=k
      . rw[?aW,?c4]at e;have:=h x ?J O9m ?f e;omega
      . ext BF
   have l1:=lt x O9m;have l2:=lt ?J ?f;by_cases h1:s x=k
   . rw[?b4]at hk;have:=h x ?J O9m ?f O9m;omega
   . rw[?aW]at hk;omega
theorem eL[?G]{m:Nat}(ch:∀a b,a<=b->?tN):∀(k:Nat) [?e6],?CT ?fI
 | 0,_,_,_=>Int.dvd_refl _
 | k+1,s,h,hm=>by
   obtain⟨x0,hx,hk⟩:=BL k s fun x y hx hy e=>?yL;have hd:f k∣ ?zA:=ch _ _ hk (hm x0 O9m)
   have ih:=eL ch k (fun x=>?q5) (fun x y hx hy e=>by
    by_cases h1:x=x0
    . by_cases h2:y=x0
      . omega
      . rw[?b4,?b7]at e;have:=h k y O9m O9m e;omega
    . by_cases h2:y=x0
      . rw[?aW,?c4]at e;have:=h x k O9m O9m e;omega
      . ext BF) (fun x hx=>by
    split
    . exact hm k O9m
    . exact hm x O9m)
   show ?fI*f k∣ ?vG
   have e:?vG=?l (?sJ) k*?zA:=by
    by_cases z:x0=k
    . subst z
      congr 1
      exact ?r6 fun x hx=>?rG
    . have:=P9 (f:=?oA) (f':=?sJ) (i:=x0) (m:=k) O9m fun x _ hne=>by rw[?oN]
      simp only[if_pos]at this;exact this.symm
   rw[e];exact Int.mul_dvd_mul ih hd
where
 prodN_congr' {f g:?h}:?qJ
  | 0,_=>rfl
  | n+1,h=>by
    show ?A4;rw[?r6 ?t8,h n ?c]
theorem Xx{f g:?h}:?qJ
 | 0,_=>rfl
 | n+1,h=>by
   show ?A4;rw[Xx ?t8,h n ?c]
theorem DE{d:Int}{g:?h}:∀{n:Nat},(∀k,k<n->d∣g k)->d∣ ?D5 g
 | 0,_=>?pA d
 | n+1,h=>?kZ (DE ?hH) ?xA
noncomputable def Up(U:Mat)[?K](W:Mat)(m:Nat)[?e6](j:Nat):Mat:=fun x y=>if x<j then W ?iH y else ?ET x y
theorem IT{m k:Nat}[?G]{U W:Mat}{g:Int}[?B1] :
 ∀(d j:Nat),j+d=k->∀s:?m,(∀x,x<j->s x<m)->g∣ ?j4*det k (?i9)
 | 0,j,e,s,hs=>by
   have e':j=k:=e;subst e';by_cases h:∀x y,x<j->y<j->?k0
   . exact Int.dvd_mul_of_dvd_left (hg s h hs)
   . have:∃x y,x<j/\y<j/\s x=s y/\x≠y:=by
      apply qn6;intro no;exact h fun x y hx hy e=>qn6 fun ne=>no ⟨x,y,hx,hy,e,ne⟩
     obtain⟨x,y,hx,hy,e,ne⟩:=this;rw[Ff hx hy ne fun c _=>by unfold Up;rw[?i hx,?i hy,e],qf3];exact ?pA _
 | d+1,j,e,s,hs=>by
   have hj:j<k:=O9m
   have e1:?i9=By (?i9) j fun c=>?ET j c:=by
    funext x y
    unfold By;by_cases z:x=j
    . ext aR;unfold Up;rw[?p,z]
    . ext X
   rw[e1,Wy _ hj,←Bh];refine DE fun u hu=>?_
   have ih:=IT (U:=U) (W:=W) hg d ?aI O9m (fun x=>?dY) fun x hx=>by
    split
    . exact hu
    . exact ?uI
   have e2:det k (By (?i9) j (W u))=?n6:=Cz fun x c hx hc=>by
    unfold By Up;by_cases z:x=j
    . rw[?bQ,?aY];show W u c=W (?dY) c;ext aR
    . ext X;by_cases z2:x<j
      . rw[?i z2,?aY];show W ?iH c=W (?dY) c;ext X
      . rw[?k z2,?p]
   have e3:?l (fun x=>f (?dY)) ?aI=?j4*f u:=by
    show ?l (fun x=>f (?dY)) j*f (if j=j then u else s j)=_;rw[?r,Xx fun x hx=>by rw[?k (?EK x j)]]
   rw[e3]at ih;rw[e2];obtain⟨c,hc⟩:=ih;refine⟨U j u*c,?_⟩
   have:?j4*(U j u*f u*?n6)=U j u*(?j4*f u*?n6):=by
    simp only[qe6,Int.mul_left_comm,qf7]
   rw[this,hc];simp only[Int.mul_left_comm]
theorem BD{n:Nat}{P PB P':Mat}(h:?vX)(x:Nat):∀c,c<n->P' x c=?oM:=fun c hc=>by
 have e:?oM=?D5 (fun a=>?iU*pT n PB P a c):=by
  rw[Ao fun u _=>(Gm _ _ _).symm,D8];refine Ao fun a _=>?_;show _=?iU*?D5 (fun k=>?gR*P k c);rw[←Bh];exact Ao fun k _=>by rw[qe6]
 rw[e,?W hc fun a ha ne=>by rw[h a c ha hc,?eF,qf3],h c c hc hc,?r,qp5]
theorem DiagAt.dvdP{n w m E:Nat}[?pR][?g5]{k:Nat}[?pD]
 {g:Int} [?B1]:g∣ ?eR:=by
 have mn:=h.mn;have mw:=h.mw;have key:=IT (U:=?wB) (W:=?A8) hg k 0 O9m ?cZ fun x hx=>O9m
 rw[show ?l (fun x=>f (?cZ x)) 0=1 from rfl,qd1]at key
 have e:?xN=?eR:=by
  have e1:?xN=det k fun x y=>?oK:=Cz fun x y hx hy=>by
   rw[←hd x y hx hy];unfold Up;ext a4;rw[Qg (p':=?F7 ?oM) (q':=?o4) (fun a ha=>BD hl x a ha) (fun b hb=>BD hr y b hb),Tt]
   have in1:∀u,u<n->?CE (P u) (?o4)=?mJ:=fun u hu=>by
    rw[Jh,Tt]
    have e2:∀v,v<w->?uY*Lb w n ?f5 (Q v) (P u)=if v=u then f u*?oQ else 0:=fun v hv=>by
     rw[←Jh,?o7 u v hu hv];by_cases z:v=u
     . subst z;rw[?r,?r,qf7]
     . rw[?k ?wU,?dK,qf3]
    rw[Ao e2];by_cases z:u<w
    . rw[?W z fun v _ ne=>?eF,?r];by_cases z2:u<m
      . rw[?i z2]
      . rw[?k z2,?n8 u ?c hu z,qj6]
    . rw[Bj fun v hv=>?p,?p]
   have in2:Al (fun u=>?fU*?CE (P u) ?o4) n=?tE:=Ao fun u hu=>by rw[in1 u hu]
   rw[in2];have e3:?tE=Al (fun u=>?fU*?mJ) m:=Mq mn fun u hu _=>by rw[?p,qf3]
   rw[e3];exact Ao fun u hu=>by rw[?i hu,qe6]
  rw[e1,Tj fun x y hx hy=>?p];exact Xx fun x _=>?r
 rw[e]at key;exact key
theorem DiagAt.few{n w m E k:Nat}[?pR][?g5][?pD](hp:∀x,x<k->0<f' x):k<=m:=by
 rcases qg0 m k with z | z
 . have:=h.dvdP hl hr (k:=m+1) (?CY hd) (g:=0) fun s hi hs=>by
    obtain⟨x,hx,hk⟩:=BL m s fun x y hx hy e=>hi x y O9m O9m e;have:=?uI;omega
   have p:0<?l f' ?jW:=Cj fun j hj=>?wO;have:=Int.zero_dvd.mp ?x;omega
 . exact z
theorem DiagAt.pdvd{n w m E k:Nat}[?pR][?g5][?pU][?pD]:?fI∣ ?eR :=
 h.dvdP hl hr hd fun s hi hs=>eL (m:=m) (fun a b hab hb=>by
  rcases qg0 a b with z | z
  . exact hc a b O9m z hb
  . rw[?CJ a b];exact Int.dvd_refl _) k s hi hs
theorem JO{n n' w:Nat}{A A' U:Mat}[?BG](p q:?h):Lb n' w A' p q=?CE (fun i=>Al (fun a=>p a*?fJ) n') q:=by
 unfold Lb
 have e:∀a,a<n'->p a*?tR=Al (fun i=>p a*?fJ*?qT) n:=fun a ha=>by
  have e1:?tR=?D5 (fun i=>?fJ*?qT):=by
   rw[Ao fun b hb=>by rw[hU a b ha hb,←Gm],D8];exact Ao fun i _=>by rw[←Bh];exact Ao fun b _=>?m9
  rw[e1,←Bh];exact Ao fun i _=>(?m9).symm
 rw[Ao e,D8];exact Ao fun i _=>by rw[←Gm]
theorem DiagAt.uniq2{n n' w m m' E E':Nat}{A A' U V P PB Q QB P' PB' Q' QB':Mat}[?g5][?pU]
 (h':?EG n' A') (hl':∀a b,a<n'->b<n'->pT n' PB' P' a b=?d1) [?B4]
 [?BG] (hV:∀a b,a<n->b<w->A a b=Al (fun i=>V a i*A' i b) n'):?qS:=by
 have a1:=h.mn;have a2:=h.mw;have a3:=h'.mn;have a4:=h'.mw;have d1:∀x y,x<m'->y<m'->?CE (fun i=>?xO) (Q' y)=?oK:=?DK hU h'.diag
 have d2:∀x y,x<m->y<m->Lb n' w A' (fun i=>?q0) (Q y)=?nC:=?DK hV ?o7
 have e:m=m':=qi4 (h'.few hl' hr' (P':=?s5) d2 ?aB) (h.few hl hr (P':=?zT) d1 h'.pos);subst e
 have pe:∀k,k<=m->?fI=?eR:=fun k hk=>by
  have p1:0<?fI:=Cj (?DT ?aB);have p2:0<?eR:=Cj (?DT h'.pos);exact Int.le_antisymm (ql0 p2 (h.pdvd hl hr hc (P':=?zT) (?CY d1))) (ql0 p1 (h'.pdvd hl' hr' hc' (P':=?s5) (?CY d2)))
 refine⟨rfl,?gH⟩;have e1:=pe x O9m;have e2:?l f x*f x=?l f' x*f' x:=pe (x+1) hx;have p1:0<?l f x:=Cj (?DT ?aB);rw[←e1]at e2;exact ?z8 O9m e2
theorem DiagAt.uniq{n w m m' E E':Nat}{A P PB Q QB P' PB' Q' QB':Mat}[?g5][?pU]
 (h':?EG n A) (hl':?EA PB' P') [?B4]:?qS:=by
 have o:∀a b,a<n->b<w->A a b=?D5 (fun i=>one a i*A i b):=fun a b ha _=>by
  rw[?W ha fun k _ ne=>by unfold one;rw[?k ?iQ,qj6]];unfold one;rw[?r,qd1]
 exact h.uniq2 hl hr hc h' hl' hr' hc' o o
universe Lat
namespace Hb
open PySem L2
noncomputable def Drawn(h w b0:Nat):Prop:=(h<=7/\w<=8/\b0=4)\/(h<=4/\w<=5/\b0=22)\/(h<=2/\w<=3/\b0=69)
structure Q3(K:W.Frag)(H:Hp)[?pQ](n w k:Nat)[?K][?cU]:Prop where
 tup:Ed K H tp ?r4
 num:SqL K H nm ?zR
 left:?EE H
 lback:?DB H
 right:?DA H
 rback:?EF H
theorem Z6.r[?BH][?G]{l r:?u}(x:?uD):?AI:=⟨x.tup,.of x.num,x.left,x.lback,x.right,x.rback⟩
theorem Q3.same[?BH][?G]{l r:?u}(x:?DP H)[?kQ]:?AI:=⟨s.seqT x.tup,s.seq x.num,?dD s x.left,?dD s x.lback,?dD s x.right,?dD s x.rback⟩
section
variable(K:W.Frag)
universe e9
structure Sta where
 T:?b0
 f:?b0
 l:?b0
 lb:?b0
 r:?b0
 rb:?b0
noncomputable def dot(x y:?h)(n:Nat):Int:=?D5 (fun k=>x k*y k)
noncomputable def dl(a b:Nat):Int:=if b=a then 1 else 0
structure Good(h w:Nat)(S:Sta):Prop where
 l1:∀r s,r<h->s<h->dot (S.l r) (S.lb s) h=dl r s
 l2:∀a b,a<h->b<h->Al (fun k=>S.lb k a*S.l k b) h=dl a b
 r1:∀r s,r<w->s<w->dot (S.r r) (S.rb s) w=dl r s
 r2:∀a b,a<w->b<w->Al (fun k=>S.rb k a*S.r k b) w=dl a b
 now:∀i j,i<h->j<w->S.f i j=dot (fun b=>dot (S.l i) (fun a=>S.T a b) h) (S.r j) w
noncomputable def unit:?b0:=fun i j=>if j=i then 1 else 0
universe Hb
namespace Lat
open Hb
theorem W7(g:?h):∀n,?t1=g 0+?t3
 | 0=>by show Al g 0+g 0=_;show 0+g 0=g 0+0;omega
 | n+1=>by
   show ?t1+g ?A=g 0+(?t3+g ?A)
   rw[W7 g n,Int.add_assoc]
noncomputable def Wh(A:Mat)(j:Nat):Mat:=fun r c=>A (r+1) (if c<j then c else c+1)
theorem CG:∀(n:Nat) (A:Mat),det ?A A=Al (fun j=>?xK*det n ?rK) ?A
 | 0,A=>rfl
 | n+1,A=>by
   have e:∀i j,i<n+1->j<n+1->?yQ=?sZ:=fun i j _ _=>Cz fun r c _ _=>by
    show A (if r+1<i+1 then r+1 else r+1+1) ((if c<j then c else c+1)+1)=A ((if r<i then r else r+1)+1) (if c+1<j+1 then c+1 else c+1+1)
    congr 1
    . split<;>split<;>omega
    . split<;>split<;>omega
   show Al (fun i=>?zV*det ?A ?zP) (n+1+1)=_;rw[W7,W7 (fun j=>?xK*det ?A ?rK)];have e0:det ?A (F8 A 0)=det ?A (Wh A 0):=rfl;rw[e0]
   congr 1
   have l:Al (fun i=>?sG*det ?A (F8 A ?g)) ?A=Al (fun i=>Al (fun j=>?sG*(Sf j*A 0 ?aI*?yQ)) ?A) ?A:=Ao fun i _=>by
    rw[CG n,Bh];rfl
   have r:Al (fun j=>?v3*det ?A (Wh A ?aI)) ?A=Al (fun j=>Al (fun i=>?v3*(Sf i*A ?g 0*?sZ)) ?A) ?A:=Ao fun j _=>by
    rw[Bh];rfl
   rw[l,r,D8];refine Ao fun j hj=>Ao ?k5;rw[e i j hi hj,Xm,Xm]
   grind
theorem Tk:∀(n:Nat) (A:Mat),det n (fun r c=>A c r)=det n A
 | 0,_=>rfl
 | n+1,A=>by
   rw[CG n A];refine Ao ?k5;rw[←Tk n (Wh A i)];rfl
noncomputable def uE[?aS](A:Mat)(D:Nat):Prop:=∀(k:Nat) (r c:?m),(∀x,x<k->r x<n)->(∀y,y<k->c y<w)->(det k fun x y=>A ?dF (c y)).natAbs<=D
theorem GP(k:Nat)(r:?m):(?zD)\/∀x y,x<k->y<k->r x=r y->x=y:=by
 by_cases h:?zD
 . exact ?w h
 . exact ?z fun x y hx hy e=>qn6 fun z=>h ⟨x,y,hx,hy,z,e⟩
theorem pG{k:Nat}(M:Mat)[?e6]{y0:Nat}(h0:y0<k):?F3 ?tQ ?wY:=by
 by_cases z:y0=0
 . subst z
   congr 1
   exact Cz fun x y _ _=>by
    by_cases q:y=0
    . rw[?i q,q]
    . rw[?hB,?hB]
 rw[←Tk k ?wY,←Tk k ?tQ];have e:=ES (A:=?fZ) (show 0<k by omega) h0 (?wU) (?iL) (?nP)
 have e1:By (By ?fA 0 ?iL) y0 (?nP)=?fZ:=by
  rw[show By ?fA 0 (?iL)=?fZ from Gv ?fA 0];exact Gv ?fA y0
 have e2:By (By ?fA 0 ?nP) y0 (?iL)=?s8:=by
  funext y x
  unfold By;by_cases q:y=y0
  . rw[?i q,?p,?i q]
  . rw[?hB];by_cases q2:y=0
    . rw[?i q2,?i q2]
    . rw[?k q2,?k q2,?hB]
 rw[e1,e2]at e;show ?F3 ?s8 ?fZ;rw[e,qc7]
theorem V1{n w D:Nat}{A:Mat}(h:uE n w A D):∀(k:Nat) (r s:?m),(∀x,x<k->r x<n)->(∀y,y<k->s y<w+n)->(det k ?x4).natAbs<=D
 | 0,r,s,hr,hs=>h 0 r s hr fun y hy=>O9m
 | k+1,r,s,hr,hs=>by
   rcases GP ?J r with⟨x,y,hx,hy,ne,e⟩ | inj
   . rw[Ff hx hy ne fun z _=>by rw[e]];exact ?a2
   by_cases z:∃y,y<k+1/\w<=s y
   . obtain⟨y0,hy,q⟩:=z;rw[←pG (?D9 y) s hy]
     have first:∀s':?m,w<=s' 0->(∀y,y<k+1->s' y<w+n)->(det ?J ?wS).natAbs<=D:=fun s' h0 hs'=>by
      show(Al (fun i=>Sf i*?o w A one (r i) (s' 0)*?r3) ?J).natAbs<=D;have ih:∀i,i<k+1->?E5 ?r3 D:=fun i hi=>V1 h k (fun x=>r (if x<i then x else x+1)) (fun y=>s' (y+1)) (fun x hx=>hr _ ?fV) fun y hy=>hs' _ O9m
      have cell:∀x,?o w A one ?dF (s' 0)=if r x=s' 0-w then 1 else 0:=fun x=>by
       unfold beside one;ext a4
      by_cases z:∃i,i<k+1/\r i=s' 0-w
      . obtain⟨i,hi,e⟩:=z
        rw[?W hi fun x hx ne=>by
         rw[cell,?k fun q=>ne (inj x i hx hi (q.trans ?jP))];simp]
        rw[qb2,qb2,Wt,qf6,cell,?eK];show 1*_<=D;rw[qf6];exact ih i hi
      . rw[Bj fun x hx=>by
         rw[cell,?k fun q=>z ⟨x,hx,q⟩];simp]
        exact ?a2
     exact first (fun y=>?CF 0) q fun y hy'=>hs _ (by split;omega;ext cV)
   . have e:det ?J (?x4)=det ?J fun x y=>A ?dF (s y):=Cz fun x y _ hy=>?dW (qk1 fun q=>z ⟨y,hy,q⟩);rw[e];exact h ?J r s hr fun y hy=>qk1 fun q=>z ⟨y,hy,q⟩
end
mutual
#check(5,[?a,?b,some,.int,?F Int,decide,.inl,?F Str,.(by ext k),.ref,.(by decide +kernel),min n w,G σ H,.lst,if_neg,∀{G:?hV},a,(by omega),?F V,?j a,.inr,xs.getD,∀(K:W.Frag),a,V.int,(xs:Am),G σ,Nat->Int,∀{G:St->Prop},a,?E H H',ms.map,if_pos,Same,List,?l*?bG,Nat->Nat,(k:Int),∀{vs:?r},a,(n+1),(?hT),Hp->Prop,.tup,?D rfl,(k+i),(LT K H (?s) xs),Int × Int,?d k,a.fdiv b,(?f0),∀(φ:?kH),a,.none,qf2.mp,?AQ ms,(?aN),beside,qa9 _,Jr fs e i,_::_,wpAny,∀(xs:Am)(k:Int),a,Ht xs k,Da ms k,bookF,s.heap.objs.size,(a:Addr),?o ?q,?d i,H D=none,∀{A0 A1:Type}{S:A0->A1->St},a,∀{A0:Type}{S:A0->St},a,(?aL),(?b0+1),face,?F Ms,Q (?j D) H',.(by decide),mulV,qa1 _,G s H,H' D,?c o,none,∀{ms:Ms}(h:?bV),a,∀(ps:?cE),a,∀{ps:?cE},a,xs.length,(k+j),wk.e0,?c ?tG,(?j e),(n:Int),IsEnum,(i+1),sp.getD m 0,Cg xs,?D z,qa3.mp,∀{xs:Am}{k:Int},a,∀{D:Addr},a,?j p,2 ^ π,p0 x0 x1,?B3 p0,Reps,"enumerate",qc4 ?Z,(π+2),.non,cK ms,?c (.dK (?bI)),(?lQ),Bits,z.symm,(?vG),?c q,∀{A0 A1 A2:Type}{S:A0->A1->A2->St},a,∀(ls:?h5),a,∀{ls:?h5},a,∀{K:W.Frag}{H:Hp},a,.(by split<;>omega),∀{K:W.Frag},a,nd ms,Hw ms k,(r+1),Lat.Bits,(σ=?h8),(?h0),Option,(t:Int),(p0 x0 H),(a b:Addr),(0:Int),(?fH),?j b,A0->?M,sumN_one,(xs.length:Int),Heap.SameBut,Same.new,B a c,?F Bz,k<=j,2 ^ b,(2*n+π+2),?d n,?j c,(p j),(?eQ),(ms:Ms),.(by rw[qa4,?g7];rfl),∀{es:?l5},a,∀{f:?z},a,∀{H H':Hp},a,2*(?hG),(2*w+π+2),p.1=k,p1 x0 x1,(0<=k),Lat.Mat × Lat.Mat,?B3 p1,p.dπ,Lat.one,(?l3 ?w),fs.getD i 0,(Ni xs k),(p r),(p1 x0 H),(xs.length<=1000),"place",iT n i,fun z=>?_,(?iU),base,(t+1),qa0 O9m,?BB S,G i a,s l-w,Cu.nd,?o z,β2+(?G-m)*?cS,?u f.toNat [],B4 H vs ps,(pv 2),.type "tuple",(?b4),"number",(E5 xs ms),(?wC),p::ms,(k+1),(by rfl),∀{xs:Am}(h4:?iD),a,∀(fs:?e)(n:Int),a,∀(xs:Am)(ms:Ms),a,.(by simpa using h1),∀(s:?B),a,(O9m),?o h,p0  x0 H,Wf (?mR) e,(?a6).length,(lf j hj),Ed K H a xs,?D e,.(by simpa using e),?AB A0 A1,(v:V),Sh ys t,φ p.1,(w-k),2 ^ π2,p::ps,(?jE),(pv 0),absurd,vs[i]?=?eP,?zJ S,let s:=(?lP);?aO,.(by cases h),let s:=?lP;G s,Dh xs 0,[?d a,?d x,?d y],?c v,σ=S x0,qb8 ?q,v::vs,?iS hi,(σ=?lB),?j t,(Ne.symm ne),IntMulOk,fun z=>O9m,Dh xs ?dS,Dh xs k,⟨_,rfl⟩,(?kJ),?D ?q,KP (?lW) n,(lf i O9m),wk.going,IteT K a,(j+1),s.heap,Ho H v p,(j:Int),let s:=(S x0);?aO,β+(?G-m)*?cH,(?r1),(?d1),A0->A1->?M,σ=?lP,b≠e,Value,List.replicate,?AO p0,p1  x0 H,(ms.length<=1000),s.heap.objs.size+1,.(by ext dX),∀{A0 A1 A2 A3 A4 A5 A6 A7:Type}{S:?AT St},a,∀{z k0:Nat}{L G:Lat.Mat}{f:?z}{l r:?cW},a,.(by unfold nd at h;rw[qd5,qi5]at h),∀(J0:?lQ),a,∀{xs:Am}(hs:?b4),a,∀(D:Addr) (H':Hp),a,∀{q:?R},a,∀(f:?z),a,∀(lf:?aJ),a,∀{p:?e},a,∀(_K:W.Frag),a,∀(us:?r),a,Q ?P c,(kB n+6),p.π9,?z8 p2,(qe8 _ _),qa0 ?q,zt1 ?f9 t,let s:=?h8;G s,?X hp,ms.getD i (0,0),.(fun _ z=>by cases z),?t h,(ls:?h5),"row",(?x1),p<?cA,its.toArray,(kB n),ms[i],ql4.mp,A0->A1->A2->?M,"shape",[(p,1)],Hs ys t,?zJ p0,(?dR),wk.kl,b≠D,?fJ->?kD,(m:Int),H p=none,(?iL),fun p hp=>?_,let s:=(?h8);?aO,Hm ms fs n i,?c p,p2  x0 H,dg.pos,p.2.2.2,?F (?cE),(k,v),qI ps,?B3 S,?A3 p1,?o e,prodN,A0->?AB A1 A2,(pv 3),(?mR).length,Ee Ls _ ?q,?iK%2,Mat × Mat,(?jX),Da ms j,V r l,p.1=1,h.zero,qd3 _,Wv ps,.type ?bE,List.range,Z7 K C B p xs ls,(?G),.(by simp),E5 xs ?gO,St->?M,[?d (a-?T*b),?d (x-?T*u),?d (y-?T*v)],Ee zs _ ?q,(p2 x0 H),(?BP p1),(vs=[?s,?c7]),s.heap.IsTuple,?zJ p2,?A3 p0,?d p,(?BP p0),?z8 p0,p.getD i 0,?z8 p1,?zJ p1,Ee Gs _ ?q,?B3 p2,p.1.toNat,∀x∈xs,x.length<=4,fQ t k,?AO p1,fs.length,.str x,ys.getD ?dB [],(?BT p1),(i:Int),putI ms k v,hp.objs.size,(upd H D o),?c ps,?z8 p3,?j ?a9,p2 x0 x1,qe0.mp,?a7+n,M9 xs ms i,?u ?iC [],QG xs p,.(by simpa using hb),Jr fs k i,p.getD j 0,?F ?fJ,∀{A0 A1 A2 A3:Type}{S:A0->A1->A2->A3->St},a,∀(s:Q1 b H H1)(hb:H b=?c (.dK m)),a,.(by rcases qb7.mp hb with rfl | hb),∀{ys:Am}{t:Nat}(h:?jA),a,∀(h:Fx D H vs ls),a,∀{ms:Ms}(h:nz ms),a,∀{ms:Ms}{k v:Int},a,∀(fs:?e),a,∀{ns:?e},a,t+1<ys.length,?AT ?M,?z7 p1,(us:?r),Dh xs ?I,[?d (-a),?d (-x),?d (-y)],Lat.EuI,2 ^ 10,ys.getD t [],Hu k0 f,K2.st.good,.of Ab,?AO p2,q.1.toNat,"_law_shape",?o ne,ls[k.toNat]?=?iO,?N ds,let s:=(?dD);?aO,Al (fun a=>v a*?q7) w,Nf n l,Io xs ys os,?o7 f k0 i,qe3 ..,?zZ p0,(L r ?d3).natAbs,Wf [x,y] e,ih O9m,p.2.2.1,if ?jW=0 then [] else tX xs ?dS (r.1 i),?u ?u3 [],⟨_,rfl,q2⟩,F.binds hb,?F Addr,?zM S,cF n*2 ^ n,?n ds,ys[m]?=?bO,(p:Addr),Shared->Prop,if ?cT then(p.1,v) else p,B4.put,Str->?c1 ?fJ,Int->Int,Ty k w Q p,Ji ms k n,IsEnumOut,rawInt,"width",?A3 p2,?p7->h'.get? b=?aQ,q.1<?cA,hasDict_toPDs ds,p.toNat,st.pos,⟨k1,g,d,tk,os⟩,qf7 ..,Pv i σ H,(ZA e),i<=ms.length,let s:=(?lB);?aO,{ cls:=?hP,data:=.fields #[?W,.bool false,?iQ,?kL 0,?W,?W] },((?iD)),fun b hb=>?_,w6.extBut,ns.map,(T i c).natAbs,?F Expr,(L N:Addr),?zU v y,?zB Gh k,let s:=(S x0);G s H0,?aM w (gT m G B) v i,?z8 S,KP B n,H a=?aY/\?vO,qh6 ?aG O9m,"other",?z7 p0,s _ _ h1,Nf w r,qe0.mpr O9m,sp.map,ls[k]?=?iO,(o4 o5:?c1 V),cF i*(?cG) ^ i,i*n.natAbs,S x0 x1,xs.length<=40,?z7 p2,O c=none,L j ?d3,p3  x0 H,0<need,fun r=>B ?bX,fun n=>D.lst (D9 n),?c (?s),2 ^ b2,(p++[f]).getD,Rd H a (.dK (?bI)),(ns:?e),Q ?bH H',A0->A1->A2->A3->?M,j<p.length,.(by rw[Ak ne];exact h),(?j C),h.diag,Qq os t,[?d b,?d u,?d v],C3 ms k,?BQ p0,∃z L G,?BH 4,2 ^ bookF,Ht xs (k-1),Ji ?c0 ?fF (?d7),sp.length,Rr xs k n,"bool",Mx _ _,?D hi,DiagAt,Pv ?b2,fun n=>?f (1<n),fun q hq=>?_,w5.extBut,?u ?kR [],(B:Hp),kP ?g3 (?l),0<=p.1,Fz O H vs lf,?o this,fun j hj=>?_,Array ?fJ,kk b o (bS b hb).1 (bS b hb).2 z,Dj m z L p,ns.length,h.ok f hf,w7.extBut,∀j c,?cF->j<w->c<w->(r.1 j c).natAbs<=?lZ,[e,it],Lat.turnL,xs[f.toNat]?,Bx P w K mg ?dA Eu k f fd ps sp,"__init__",∀(st:?n0)(hB:?tK)(b2:∀q c,q<m->c<w->(B q c).natAbs<=2),a,∀(ge:?AM ?f9 n)(gj:s.heap.IsTupleIter j t n)(gt:?oQ),a,∀(xs:Am)(k:Int)(z k0:Nat)(L G:Lat.Mat)(f:?z)(l r:?cW),a,.(by have e:?gB=?gK:=?rM),∀{P:Program}{w:World}{K:W.Frag}{mg:?kG},a,∀{A0 A1 A2 A3 A4:Type}{S:A0->A1->A2->A3->A4->St},a,.(by wp_walk using wpAny_loadPart' q1,qn0 gt),∀{sp ns:?e}(hl:ns.length=sp.length),a,.(by obtain⟨its,rv,p,hz⟩:=I.tuple hq),∀{xs ys:Am}{os:?e}(h:?jV),a,∀{st:Stmt}{ps:?h}{k:Nat}{sp:Sp},a,∀{e j t:Addr}{n:Nat}{vs:?mY},a,.(by have z:b=it:=?iX),∀{prog:Program}{w:World}{A:Around},a,∀(ns:?e)(lo hi:?c1 Int),a,.(by unfold lev at la;simp at la),.(by unfold lev at lb;simp at lb),∀(b:?zB v7 j),a,∀(hD:H D=?aY),a,∀{α:Type}(g:Nat->α),a,∀{a:Addr}{xs:?r},a,∀{f:?v1},a,b'*f j / g,"_law_i",UF n w D π β π2 β2 b2 A m M l r,?z5 p2 Q6,?E H G',if ?b3=k then c else 0,K2.st.st,let u5:TS:=?xJ;?q1,?kK h' e j ?aH x ?a9,(one,one),?u ?jN [],Lat.numAt,?zD u2 D',?tL I ds hr rv,((q+1:Nat):Int),if i=j then 1 else 0,?B3 p3,T.n_isinstance,qe7 ?aG O9m,Hu ?U v,(?c ?c2),(q:Int)+1,h.2 i v e,fun p=>?s4,Part xs need p,?mM n w k D A l.1 l.2 r.1 r.2 f,tX xs k v,"_law_k",p.length-1,Au t4 u5,?i1 t vs,Zf ns lo hi,"_law_at",g7 _ _ z,Nf w (Q,QB),.(by rw[Ak (S7 c _ q)];exact q),∀p∈ps,PU ?aV p,β+F1 π b i<=big,fun i=>r.2 (k0+i),Au t2 u3,?zZ p2,.(by simp at h),?zJ p3,let wI:TS:=Au uN u12;?t8,Lat.ChainTo,Fz O H' vs lf,uE n w A D,?vZ b=?aQ,∀x0 x1,?eM,?z5 p5 Q6,fun Ds A outer s H vs Q E hr h=>?_,qb5 _ (Nat.sub_le _ _),(?jJ).filter,(?u (?i7).toNat []).getD,⟨c,e1,e0,e2⟩,Bp X Af σ H s,ID D nm r1 D1 D2 b2,H' p=?aY,Da ?c0 ?fF,"_law_face",0<=f/\f<?cA/\?w6=need,F.bel f hf,?aM w B (Q ?P) x,(?hO).filter,{ cls:=?dM,data:=.seq #[?s9,x] },look m q hq hlt,let s:=S x0;G s,.(by have:=dg.mn;have:=dg.mw;omega),p.2.natAbs,h.ge j h1 h2,h'.IsTupleIter,w2.extBut,[(t,t+1),(t+1,t)],?z5 p6 Q6,?zZ p1,∀(j:Nat) b n,bs[j]?=?c b->ms[j]?=?c n->?gT/\H b=?zG (n.map ?w),π<=8990,let u4:TS:=?oP;?sO,?zI S,Od xs ?I ms,∃p,Ty k w r.1 p,?A3 p4,let u2:TS:=?oZ;?wJ,QB ?P a,Reps.one,as.drop k,{ s with heap:=h',toks:=?y6 },h'.objs.size=?fO,let s:=?lB;G s,0<=p/\?gH,Al (fun x=>PB x b*?rL) n,fun r c _ z=>z.elim,wpAny_callSpecial?_slot,?AI D D2,?aI f hf,fun _=>0,let u12:TS:=Au zQ u13;?p3,let s:=S;?aO,Hw ?gR k,Ee rp _ e,.(by rw[Ak (S7 b _ z)];exact z),?z5 S Q6,?c2 ∉ ?iI,KP (fun r=>?jZ) i,∀x0,?pQ,g7 _ _ hc',Ee ks _ e,ys[?iE]?,(LK H d),"pieces",let u9:TS:=?tW;?t3,(qb6 ej),Nat->?hV,toPDs ds,p3 x0 x1,Da ?dP e,Au t6 u7,?z5 p0 Q6,Wf (?u (?AW ?a6 j).toNat []) (?AW ?mF i),.(by rw[←yH];exact ?jL),?z8 p5,?z7 p3,?zI p3,?zM p1,Jr fs f i,m<sp.length,Rr xs k ?K,fun m hm=>?_,(ks j+i),ok _ O9m,(?gP).map,fun D hD=>?_,?hB f (m+1),Al (fun a=>P x a*u a) n,.(by ext cN),wpAny_attempt,let u4:TS:=?oP;?uC,?a6++Ht xs l,fun _=>Lat.one,qc2 _ rfl,fun r l=>?a0 w T one r (s l),(?u ?vF []).length,⟨_,hen⟩,l.getD i d,q.2.natAbs,DGet H a (?S) ((?mB).map ?w),w3.extBut,QB ?P c,?BB p2,g.1.toNat,Ey K n q st f fd,jX K R vs H1,p.map (FQ t),β2+F1 π2 b2 i<=big,fun _=>(?cZ,Lat.one),(qb6 hi),.(by unfold one;rw[?o (?AC ne),qj6]),?d n tk,fun j=>?f (?AE j),(σ=?k8),blend_row_ne O9m O9m _ _ _ _,(qT d).hasDict,[iS n,iS p,rS L,rS N,o4,o5],?z5 p1 Q6,fun n=>?x2,vs.length=ls.length,D.nx σ H,let u2:TS:=?oZ;?o8,?pU j t ?K,(qb6 ei),fun y a=>u1.1 y (w+a),if ?d1=e then ?a2+1-?cR else ?a2,let u3:TS:=?y2;?q6,.(by simpa using e2.symm),.(fun z _=>by rw[e]),[a,b,c,d],?hB (fun r=>f ?bX) m,?AO p3,(?wC).length<=ms.length+ns.length,⟨(Iv h).1,(Iv h).2.1⟩,E5 xs ?dP,?zJ p5,K1.st.good,Au t8 u9,(ps++[p]),S x0 x1 x2 x3 x4 x5 x6 x7 x8,h3 j b n e1 e2,let u8:TS:=?sZ;?uO,⟨_,ge,rfl⟩,.(by simp[Gn]),(p4 x0 H),(?b6 e).1,let mS:TS:=Au MJ wI;?qY,?hG=0\/?hG=1,List.Sublist.map,qa5 bl.zm (qa5 (Fn _ _ _) J0),?aI b ?L,(σ'=?sE),?G-(m-1),?A3 p3,(?n us),fQ t m<k,?A2 (pyNext ?aZ) Q,fun t=>D6.start _ _ _ _ _ _ t,∀q c,q<m->c<w->B q c=Al (fun i=>L i q*T i c) z,readsAll_of,k3.push ?pO,Fk K mg Ag Ad Ah Aw,Nd xs k ns,?zI p0,mainGlobals,?bY z ?U ?a8 L,(?gL h).1,?kS r O9m,?F (?R),?zI p1,Au t9 mS,.(by simpa using e1.symm),s1.heap.objs.size+1,?zJ p4,Ht xs ?dS,List.filter_cons_of_neg,Al (fun y=>?l7*Q y c) (k+d),(?gB).1.toNat,(?g8).objs.size,Oh H vs ls,n2.filter,beside_hi,let u5:TS:=?xJ;?rO,⟨rfl,rfl⟩,?BB p0,?h3 i O9m,let u3:TS:=?y2;?sJ,bs.length=ms.length,spN xs k i,["one",?lF],?z5 p3 Q6,?z7 p6,?z8 p4,.(show k+1-1=k by omega),F.entry_enumerate_next,(ms++[n]),ms.length,?c (?jW),let u7:TS:=?wN;?vW,Ht xs (0-1),gT m G B a c,(qb6 hj),ms.length+1,bW ms p.1 p.2,?z5 p4 Q6,let u8:TS:=?sZ;?w4,T.n_tuple,(?T).natAbs,["old","new",?x6],"_law_words",s _ _ (fun z=>by rw[z,hb]at h;cases h) h,Nat->?z,Nat.log2,(ps:?cE),⟨rfl,rfl,rfl⟩,?z8 p6,Ey K n n st f fd,cF i*2 ^ i,p0  x0 H0,upd (?zV 0) N0 (?N [?i4,?d 0,?d 1]),?zI p2,?zM p2,deps (?C ?lX),?zM p3,(?a6).zip,ms[i].1.toNat,Dh xs (k-1),?B5 ?a9 x,ls.length=4,⟨_,hL⟩,yE x e-yE y e,{ s with heap:=h' },?D h.symm,Ou n (fun c=>c<w+n) (?a0 w A one) D,B4 H us ps,?zM p0,?a0 w T one j (s l),?B3 p4,det i (EE V Z i),fun j hj=>O9m,?fI/\b≠it,La H D ms,let u6:TS:=?r4;?o3,small (by rw[hzs,qc1];omega),HT.sIx ?n1 0 lo,s.heap.get?,"_law_word",π2<=8990,List.map_id,?BH n,let u7:TS:=?wN;?w5,let u6:TS:=?r4;?u8,(?dJ).length,s3.trans,"shared_divisor",(A i c).natAbs,List.filter_eq_nil_iff.mpr,p.length,Gn ms ns,(?b6 e1).1,?iY+1-?cR,fun n=>?f (n≠1/\n≠0),?z7 p5,Lb n w A (P y) v,?BO S x9,?BU u2 D',?BC H',(ql9 ?_),?AC h,Au t7 u8,VI w (f i),?z5 p7 Q6,fun i=>f ?P,?z7 p4,fun f' hf'=>?_,Gn (Ji ms p.1 p.2) ns,Ed K H1 a xs,i<vs.length,bA xs k ps,h.pos j h1 h2,let s:=?eJ;G s,Ck.start _ _ _ _ _ _ _ _ _ _,((l9 ps:Nat):Int),?BT p0,?f (n=0),fun i=>r.1 (k0+i),?d i s.toks,i=vs.length,"quotient",fun j c h1 h2 h3=>?_,ls[i]?=?iO,"is_whole","_law_other",?CA true,ite2 (fun h1=>?_) (fun h1=>?_),?BB p1,?z5 p8 Q6,fun i hi=>?_,Al (fun a=>?dE*?cD) m,fun i j h1 h2 h3=>?_,(T5 n ms),Au t5 u6,ms.length<=1000000,setField,Reps.x s hb r,?aI a ?L,Nf n (P,PB),Q (?j R) H',Al (fun j=>?lT*Z j l) ?bX,.seq vs n,hf it ?L,(?k4).length,h.2 i v ps e1 e2,i<=xs.length,Bool->?M,"levels",fun j h1 h2=>?_,(Ni xs k i j).natAbs,Yt es=?c ns,p4  x0 H,Au t3 u4,?bY z ?U ?a8 G,List.filter_cons_of_pos,⟨c,q1,e0,e⟩,s.toks+1,os.getD ?dB 0,.(by have G:=F.agr ?L;have e1:=G 0 1 b a _ _ ?aG rfl rfl gb ga;have e2:=G 0 2 c a _ _ ?aG rfl rfl gc ga;have e3:=G 1 2 c b _ _ ?aG rfl rfl gc gb),.(by rintro zs τ G1 ⟨s3,aO,hzs,_⟩;refine⟨D,_,rfl,?g ⟨.of aO,fun T1 hT1=>?_⟩⟩;have s4:?E G1 (upd G1 T1 (?N zs)):=?cC hT1),.(by obtain⟨A,ha,ga,la,ca⟩:=?xN;obtain⟨B,hb,gb,lb,cb⟩:=?tC;obtain⟨C,hc,gc,lc,cc⟩:=?aI c ?L),∀(p:?qH)(hA:∀i c,i<n->c<w->?w9<=2 ^ b0)(dets:?vN),a,.(by intro X hP hw hK hc i Af s σ H E I hf st hg;subst hP hw hK;obtain⟨⟨old,h1⟩,h2⟩:=st),.(by show ?zY 2 _;refine qa7 (qh3 ge rfl (x:=?j j) rfl ?_)),.(by have cm:∀C,?hS*C<=(?G+1)*C:=fun C=>qb5 _ (qn9 _)),.(by have f1:=p.f1;have f2:=p.f2;have fb:=p.fb;have hbF:tZ<=big:=?aL),∀{lf:?aJ}{c:Addr}{m:Ms}(h:?mV)(e0:?lS)(e:H c=?zK m),a,.(by exact ?g (?t ⟨o,?v0⟩)),.(by obtain⟨i,hi,rfl⟩:=?X hn;have:=b.fin.dg.pos i (?eT)),∀(h:Lev q m z D L G)(tw:∀c,c<w->?A5 (fun a=>?cD)),a,.(by exact ?g (?g (?v0))),.(by have ht:s.TypeIs ?aZ ?bE:=?t4),.(by obtain⟨a,vs,rfl,hq,hr⟩:=h;obtain rfl:u=?s:=r),.(by rintro ⟨p,hp,e⟩;exact⟨p,hp,?e7⟩),.(by exact List.Nodup.sublist (?tA _ qu9) h),.(by show ?AV ?wT _;rw[qc5];omega),.(by rw[Jf,show(?c2+2)=((t+2:Nat):Int) by omega,Hk]),∀{A0 A1 A2 A3 A4 A5:Type}{S:A0->A1->A2->A3->A4->A5->St},a,.(by exact ?g (?t ⟨q,?m6⟩)),.(by have e1:=cm ?cH;have e2:=cm ?cS),.(by have ne:?gT:=fun z=>by rw[z,hD]at h;cases h),.(by have s1:=sC ?cH;have s2:=sC ?cS),∀{X:Cx}{J:XJ}{j k:Nat}{C:Addr}{ps:?h},a,∀{X:Cx}{Af:Bl}{σ:St}{H:Hp}{s:Shared},a,∀(n w D π β π2 β2 b2:Nat)(A:Mat),a,∀{z m w:Nat}{L T B:Mat}{p:?H},a,∀(h:?mM n w k E A P PB Q QB f),a,∀{Q:?c1 ?fJ->?kD},a,∀{n w k E:Nat}{A P PB Q QB:Mat},a,@(?a x0 x1 x2 x3 x4 x5 x6 x7 H),@(Au t2 (Au t3 (Au t4 (Au t5 ?a)))),@(?a x0 x1 x2 x3 x4 x5 x6 x7 x8 x9 ?b),@(∀σ H,?a->?m),@(?a  x0 x1 x2 x3 x4 x5 x6 x7 H),@(?a x0 x1 x2 x3 x4 x5 x6 x7),@(∀σ,?a->?y),@(?c5+sg 0*Wf (?u a.toNat []) e+sg ?a*Wf (?u b.toNat []) e),@(?a xs ?b z k0 L G f l r),@(?rN (?qG (name:=Str.ofString "__next__") ht qq5 (ql1 qq5 ht ?uK ?a (F.args_enumerate_next_1 _)))),@(g x σ H fun σ1 H1=>Au t1 ?a ?b σ1 H1),@(Bc (Bi (K:=K)) ?a Aj (fun _ _=>rfl)),@(?a  x0 x1 x2 x3 x4 x5 x6 x7 x8 x9 H),@(?c (?n ?a)),@(?a4 _ _ ?a _ _ ⟨?b,g,d,tk+1,os⟩),@(?a x0 x1 x2 x3 x4 x5 x6),@(?a x0 x1 x2 x3 x4),@(?c (.dK (cK ?a))),@(show ?a<?b by omega),@(?a x0 x1 x2 x3 x4 x5),@((5*?l+?l*?l+1)*?a),@(mg ?a=none),@(?a xs ?fB (zs j) (ks j) (Ls j) (Gs j) (fs j) (lp j) (rp j)),@(?a  x0 x1 x2 x3 x4 x5 x6 x7 x8 H),@(?a (show _<=F by omega)),@(?a  x0 x1 x2 x3 x4 x5 H),@(h'.get? ?a9=?c { cls:=?dM,data:=.seq #[?d n s.toks,?a] }),@(Al (fun a=>?a a*QB ?b a) w),@(upd H L0 (?N [?cI,?d 1,?d ?a])),@(?a0 n (fun i j=>u1.1 j ?a) r.1),@(⟨h.1,fun i v ps e1 e2=>let ⟨a,us,e,?a,h1,h2⟩:=?xU;?b⟩),@(?a4 _ _ (field ?aZ ?a>>=_) _ _ ?b),@(?a  x0 x1 x2 x3 H),@(2*(((?a:Nat):Int)%2)),@(?a (l:=C) (by unfold lev at lc;simp at lc;omega)),@(?a4 (model prog w) A ?a ?b E s),@(?a  x0 x1 x2 H),@(Ap (i:=?a) ?dG ?b),@(∀x,x<q->?aM m D ?a x=0),@(fun r hr=>by rw[qr0]at hr;subst hr;exact ?a),@(A0->A1->A2->A3->A4->A5->A6->A7->A8->A9->?a),@(Az (Dv (K:=K)) ?oD Cc (Aa ?eG (Aa ?a Ac))),@(fun j hj hn=>?a j hj hn),@(?g ⟨?bI,?g k,rd,rfl,(HV ms ?a).symm⟩),@(?a->?b->Prop),@(fun z=>?a ?bM),@(show ?i1 ?a ?gI from p),@(Dq (?u ?a []).length=k),@(A0->A1->A2->A3->A4->A5->A6->A7->A8->?a),@(fun i j hij hj=>?a ?P ?aW O9m O9m O9m),@(Q3 K ?a tp nm r1 D1 D2 b2 n w k f l r),@(JR n w b0 ?a π b β ?b π2 b2 β2 C1 C2 F),@(mg ?a=?lY/\∀H,Ed K H a ((?b:?e).map ?w)),@(Rep K H ?a ?b),@(Dn (vs=[v]) (LT K H v xs) ?dN ?bK ?a),@(?b1 ?a e j ?b old),@(?a (by simpa using h)),@(?a  x0 x1 H),@(φ (?b3)*Da ?a (?b3)),@(wF φ ?a),@(k x0 x1 x2 x3 x4 x5 ?a h0 h1 h2 h3),@(Au t1 (Au t2 ?a) ?b σ H),@(A0->A1->A2->A3->A4->A5->A6->A7->?a),@((∀b o,?fI->b≠j->?kO)->Q ?a ?qA),@((?a).length<=?b),@((?a).getD ?b 0),@(?a  x0 x1 x2 x3 x4 H),@(g x σ H fun σ1 H1=>t1 ?a σ1 H1),@(⟨h.1,fun i v e=>let ?pE:=?oI;?a⟩),@(SqL K H ?a ?b),@(Bj fun x hx=>by rw[?a x hx,qf3]),@(Bj fun a ha=>by rw[?a a ha,qf3]),@(?a x0 x1 x2),@(⟨_,rfl,_,_,d,rfl,?a ?b,hx,_,rfl,?_⟩),@(upd H ?a (?N [?aC,?b])),@(oF (fun r=>Mo ?gJ ?g3 ?a r ?b) (?l)),@(go _ (?t (?t (?a ?b)))),@(fs.length=?a),@(Bx P w K mg ?dA Eu 1 f fd ?a (?b K)),@(Ak (ne ?a ?gC)),@(?a x0 x1 x2 x3),@(∀[?J][?aU],?dK->B4 ?a vs ps),@(⟨?a,rfl,?aL,rfl⟩),@(uZ ?a (by have:=p.π9;omega)),@(show ?a=?b from h),@(s _ _ ?a (?t ?f1)),@(Lu xs ?a ls z L G),@(CM ?a ?b id hD vH),@(?jG n p ?a x y ?b u v),@((?a:?r)[i]?=?c ?b),@(?a fun p=>?f ?b),@(Au t1 (?z4 (Au t6 (Au t7 (Au t8 ?a)))) D σ H),@(g x σ H fun σ1 H1=>Au t1 ?a D σ1 H1),@(?a x0 x1 x2 x3 x4 x5 x6 x7 x8 ?b),@(?a x0 x1 x2 H),@(?a x0 x1 x2 x3 H),@(?a x0 x1 x2 x3 x4 x5 H),@(?aD->?B->?aP=?zG ?a->?aK),@(?a x0 x1 H),@(Au t1 ?a ?b σ H),@(gD _ _ (?zL ?a n) (?zL ?b n) O9m _ x y),@(fun vs H Q _=>Jj fun ?e9 ?x=>?AL ?a),@(C8 (Hf (K:=K)) ?dT ?uW Jg (Aa ?a Ac)),@(β+(?G+1)*?cH+C1+?zN (2*π+4)<=?a),@(A0->A1->A2->A3->A4->A5->?AB A6 ?a),@(?zA 1+sg 2*Wf (?u c.toNat []) ?a),@(?a x0 x1 x2 x3 x4 H),@(β2+(?G+1)*?cS+C2+?zN ?bG<=?a),@(∀σ H,?a->?m),@(H D=?zG ?a),@(C7 (Aa ?a (Aa Aj (Aa Aj Ac)))),@(?a->let s:=?b;G s),@(Au t9 (Au MJ (Au uN ?a))),@(Au t6 (Au t7 ?a)),@(fun _ _ _ _=>?a),@(?B->Q (.bl ?a) H')])
theorem uE.dets{n w D:Nat}{A:Mat}(h:?p6):?vN:=fun i hi s hs=>V1 h i (fun x=>x) s (fun x hx=>O9m) hs
theorem few{n k:Nat}{f:?H}(h:∀x,x<k->f x<n)(inj:∀x y,x<k->y<k->f x=f y->x=y):k<=n:=by
 rcases qg0 n k with z | z
 . obtain⟨x,h1,h2⟩:=BL n f fun x y hx hy e=>inj x y O9m O9m e;have:=h x O9m;omega
 . exact z
theorem gK{n w B D:Nat}{A:Mat}(hA:∀i c,i<n->c<w->?w9<=B)(hD:∀i,i<=n->i<=w->cF i*B ^ i<=D):?p6:=fun k r c hr hc=>by
 rcases GP k r with⟨x,y,hx,hy,ne,e⟩ | h1
 . rw[Ff hx hy ne ?sQ];exact ?a1
 . rcases GP k c with⟨x,y,hx,hy,ne,e⟩ | h2
   . rw[←Tk,Ff (A:=fun r' c'=>A (r c') (c r')) hx hy ne ?sQ];exact ?a1
   . exact qa5 (PF fun x y hx hy=>hA _ _ (hr x hx) (hc y hy)) (hD k (few hr h1) (few hc h2))
structure Ty(k w:Nat)(Q:Mat)(p:?H):Prop where
 zero:∀j c,?cF->j<w->c<p j->Q j c=0
 inc:∀i j,k<=i->i<j->j<w->p i<p j
 lt:∀j,?cF->j<w->p j<w
 pos:∀j,?cF->j<w->0<Q j ?cK
 red:∀i j,k<=i->i<j->j<w->0<=Q i ?cK/\Q i ?cK<Q j ?cK
theorem Qn.loops{n w r:Nat}{kt:?H}{hd:?z}{T Q:Mat}(h:Qn w (n+w) n r kt hd (?a0 n T Q)):Ty r w Q fun j=>kt j-n:=by
 have at':∀i j,r<=j->j<w->Q i (kt j-n)=?a0 n T Q i (kt j):=fun i j h1 h2=>by
  have:=?pT;rw[←?u7 n T Q i (kt j-n),show n+(kt j-n)=kt j by omega]
 refine⟨?x7,?xH,?xY,?xY,?xH⟩
 . rw[←?u7 n T Q j c];exact ?hM j _ h1 h2 O9m
 . have:=h.inc i j h1 h2 h3;have:=h.ge i h1 O9m;omega
 . have:=h.lt j h1 h2;have:=?pT;omega
 . rw[at' j j h1 h2,h.head j h1 h2];exact ?wX
 . rw[at' i j ?q h3,at' j j ?q h3,h.head j ?q h3];exact h.red i j O9m h2 h3
theorem Ty.congr{k w:Nat}{Q Q':Mat}{p:?H}(h:?kI)(e:∀j,?cF->Q' j=Q j):Ty k w Q' p :=
 ⟨fun j c h1 h2 h3=>by rw[e j h1];exact ?hM j c h1 h2 h3,h.inc,h.lt,fun j h1 h2=>by rw[e j h1];exact ?wX,fun i j h1 h2 h3=>by rw[e i h1,e j ?q];exact h.red i j h1 h2 h3⟩
universe Lat
namespace Hb
open Lat
structure JR(n w b0 D π b β D2 π2 b2 β2 C1 C2 F:Nat):Prop where
 dπ:D<=?bA
 nb:n*D<=?cG
 wb:w*D<=?cG
 b0π:b0<=π
 πb:π<=b
 bβ:b<β
 nβ:n+b0<β
 st:∀i,i<n->?oX
 π9:?q0
 d2:∀i,i<=n->i<=w->?lN<=D2
 dπ2:D2<=?eD
 wb2:w*D2<=?lZ
 bπ2:b<=π2
 πb2:π2<=b2
 bβ2:b2<β2
 wβ2:w+b<β2
 st2:∀i,i<w->?s5
 π92:?w1
 c1:∀r,r<=n->r<=w->Mo π b π r n<=C1
 c2:∀r,r<=n->r<=w->Mo π b π2 r w<=C2
 f1:?BY F
 f2:?C2 F
 fb:F<=tZ
section
variable{n w b0 D π b β D2 π2 b2 β2 C1 C2 F:Nat}{A:Mat}
noncomputable def UF[?yY](m:Nat)(M:Mat)(l r:?hH):Prop:=∃(k:Nat) (e:Int) (kl kr:?H) (hl hr:?z),Sa n w k D π m e A M l.1 l.2 r.1 r.2 kl kr hl hr/\m<=?G/\e<=D/\(∀j,?cF->j<n->hl j<=?bA)/\(∀j,?cF->j<w->hr j<=?eD) ∧
 ?bL n n (?fD) l.1/\?bL n n (?fD) l.2/\?bL w w (?dI) r.1/\?bL w w (?dI) r.2/\?jU/\?lI/\?n4
theorem YX[?yB]:Sb n w A ?o5 ?o5 (fun M l r=>∃m,?nY):=by
 have o0:∀b i j,(one i j).natAbs<=?cG:=fun b i j=>qa5 (xF i j) qk7;have hM:=aY (W:=n) hA fun i c _ _=>o0 b0 i c;refine⟨JF n w (?a0 w A one),Vu hM dets ?cY p.nb p.b0π (qa5 p.b0π p.πb) p.bβ p.nβ p.st ?g4 (Th n w A),?tJ,JF.lt,fun t1 s1 h1=>?_⟩;have hR:∀i c,i<w->c<n->((fun i j=>s1.1 j i) i c:Int).natAbs<=?cG:=fun i c hi hc=>qa5 (h1.rowD dets ?Z (fun c h=>h) hc (show i<w+n by omega)) p.nb;have hM2:=aY (W:=w) hR fun i c _ _=>o0 b i c;have JI:Ou w (fun c=>c<n+w) (?a0 n (tr s1.1) one) D2:=(gK hR fun i h1 h2=>p.d2 i h2 h1).dets;refine⟨JF w n (?a0 n (fun i j=>s1.1 j i) one),Vu hM2 JI p.dπ2 p.wb2 p.bπ2 (qa5 p.bπ2 p.πb2) p.bβ2 p.wβ2 p.st2 p.π92 (Th w n _),?tJ,JF.lt,fun t2 s2 h2=>?_⟩;have bb1:=Rz hM dets (fun k a=>rfl) h1 ?Z p.nb (qa5 p.b0π p.πb) p.bβ p.nβ;have bb2:=Rz hM2 JI (fun k a=>rfl) h2 ?Z p.wb2 (qa5 p.bπ2 p.πb2) p.bβ2 p.wβ2;obtain⟨k,e,kn,kw,he,wk,hl,hr⟩:=fK (L:=π) dets JI h1 h2
 have up:∀{x:Int}{a q:Nat},x<=a->a<=2 ^ q->x<=2 ^ q:=fun {x a q} h1 h2=>by
  exact qu1 h1 (by exact_mod_cast h2)
 have km:k*?bG<=?G:=qb5 _ O9m;exact⟨k*?bG,k,e,_,_,_,_,wk,km,he,fun j _ h=>up (hl j h) ?cY,fun j _ h=>up (hr j h) p.dπ2,Lr (V0 bb1.1) ?g6,Lr bb1.2.1 ?g6,Lr (V0 bb2.1) ?g6,Lr bb2.2.1 ?g6,(Nf.one n).go h1.good.pt,(Nf.one w).go h2.good.pt,fun j c _ hj hc=>qa5 (h2.rowD JI ?Z (fun c h=>h) hj (show n+c<n+w by omega)) p.wb2⟩
theorem xY(p:?qH){m:Nat}{M:Mat}{l r:?hH}(h:?nY)(ns:¬Straight n w M):Sb n w M l r (fun M' l' r'=>∃m',m'<m/\UF n w D π β π2 β2 b2 A m' M' l' r'):=by
 obtain⟨k,e,kl,kr,hl,hr,wk,hm,he,ηl,ηr,q1,q2,q3,q4,v1,v2,sp⟩:=h;obtain⟨lg,le⟩:=XX he ?cY ?aX;have rn:=wk.going.sq.rn;have rw':=wk.going.sq.rw;have c1:=p.c1 k rn rw';have c2:=p.c2 k rn rw';ext yF
 have sC:∀C,(?G-m)*C+C<=(?G+1)*C:=fun C=>by
  rw[qf8,qf6];exact Nat.add_le_add_right (?pB) _
 ext yV;have b1:?fD+Mo π b π k n<=big:=O9m
 have qN:?dI+Mo π b π2 k w<=big:=O9m
 have β1:π+1<=?fD:=by have:=p.πb;have:=p.bβ;omega
 have β1':π2+1<=?dI:=by have:=p.πb2;have:=p.bβ2;omega
 have tb:∀{n' w':Nat}{T:Mat}{x:Nat},π+1<=x->Fh n' w' k D e T->∀i c,i<n'->c<w'->?l4<2 ^ x:=fun {n' w' T x} hx g i c hi hc=>by
  obtain⟨g1,g2⟩:=g.le i c hi hc;have:?l4<=?bA:=O9m
  exact qc0 this (?lE)
 have bl:=Vz (tb β1 ?f6) q1;refine⟨JL n w k (?a0 w M l.1) l.2 kl hl π b π (?fD),Vq ?f6 ?aX ?gS wk.dl ηl β1 b1 ?cY le p.nb p.πb ?g4 ?g4,fun t=>?g ⟨?a1,?wZ,wk.kl.bits ηl bl q2 β1⟩,JL.lt,fun t1 u1 j1=>?_⟩;obtain⟨⟨G1,K1⟩,_,_⟩:=JL.done rn j1 c1;obtain⟨d1,d2,d3,d4⟩:=N3 ?aX ?f6 ?gS K1 wk.told;have z1:=y4 (G:=G1) ?aX le ?f6 d2 ?gS d3 ?sY q1;have z2:=W6 ?aX le ?f6 ?gS ?sY K1.st.st (fun j hj=>K1.tab j hj O9m) (?A9 K1.ker) wk.dl q2;have ker:Qn w (n+w) n k kr hr (?zW i):=wk.kr.table fun i c h1 h2 h3=>d2.sq.row0 i c h1 h2 h3;have dr:Fr w n (?zW i) r.2:=Gr wk.dr;have hπ2:π+1<=?dI:=by have:=p.πb;have:=p.bπ2;omega
 have br:=Vz (tb hπ2 d2) q3;refine⟨JL w n k (?zW i) r.2 kr hr π b π2 (?dI),Vq d2 ?aX ker dr ηr β1' qN ?cY le p.wb p.πb ?g4 p.π92,fun t=>?g ⟨?a1,?wZ,ker.bits ηr br q4 β1'⟩,JL.lt,fun t2 u2 j2=>?_⟩;obtain⟨⟨G2,K2⟩,_,_⟩:=JL.done rw' j2 c2;obtain⟨_,nx⟩:=wk.next lg K1 K2;obtain⟨m0,wk'⟩:=nx ns;have k2:∀x c,x<w->c<n->tr u1.1 x c=Lb w n (tr A) (r.1 x) ((?sM) c):=fun x c hx hc=>T4 (T:=u1.1) (P:=?sM) d4 x c hx hc;obtain⟨h1,h2,h3,h4⟩:=N3 ?aX d2 ker K2 k2;have y1:=y4 (G:=G2) ?aX le d2 h2 ker h3 ?jK q3;have y2:=W6 ?aX le d2 ker ?jK ?o2 (fun j hj=>K2.tab j hj O9m) (?A9 K2.ker) dr q4
 have en:∀C,(?tE)*C=(?G-m)*C+C:=fun C=>by
  rw[show ?tE=?G-m+1 by omega,qf8,qf6]
 refine⟨m-1,O9m,k,e,kl,kr,hl,hr,wk',O9m,he,ηl,ηr,?_,?_,?_,?_,v1.go K1.st.good.pt,v2.go K2.st.good.pt,?x7⟩
 . rw[en,←qs6];exact z1
 . rw[en,←qs6];exact z2
 . rw[en,←qs6];exact y1
 . rw[en,←qs6];exact y2
 . show(u2.1 j (n+c)).natAbs<=_;rw[kC d2 ker ?jK ?o2 (fun j hj=>K2.tab j hj ?q) (?A9 K2.ker) h1 h2 (n+c) ?q,beside_hi];exact sp j c h1 h2 h3
noncomputable def YF[?yY](k d:Nat)[?fX](l r:?hH):Prop:=?oL/\d<=5*k+k*k/\BB n n (fun _=>False) 0 (β+?hS*?cH+d*(2*π+4)) l/\BB w w (fun _=>False) 0 (β2+?hS*?cS+d*?bG) r/\?jU/\?lI/\(?q4)/\?n4
structure uG(n w D F b2:Nat)(A:Mat)(k:Nat)[?fX](l r:?hH):Prop where
 dg:?oL
 il:?jU
 ir:?lI
 bl:?bL n n F l.1/\?bL n n F l.2
 br:?bL w w F r.1/\?bL w w F r.2
 lo:?q4
 sp:?n4
theorem Ag7[?yB]:P1 n w A (uG n w D F b2 A):=by
 refine⟨UF n w D π β π2 β2 b2 A,YF n w D π β π2 β2 b2 A,YX p hA dets,fun m M l r h ns=>xY p h ns,?_,?_,?_⟩
 . rintro m M l r ⟨k,e,kl,kr,hl,hr,wk,hm,he,ηl,ηr,q1,q2,q3,q4,v1,v2,sp⟩ hS;have dg:=wk.diag hS;have sC:∀C,(?G-m)*C<=?hS*C:=fun C=>?pB;ext yV;refine⟨k,fun x=>M x x,NU ?h3 _ (?pR) fun x h1 h2=>dg.zero x h1 O9m O9m,dg.mn,dg.mw,dg,?a1,⟨Lr q1 O9m,Lr q2 O9m,?qF⟩,⟨Lr q3 O9m,Lr q4 O9m,?qF⟩,v1,v2,⟨_,wk.kr.loops⟩,sp⟩
 . rintro k d i j f l r ⟨dg,hd,bl,br,v1,v2,⟨pl,lo⟩,sp⟩ hdk hij hj;have mn:=dg.mn;have mw:=dg.mw
   have lf:∀x,x<k->(f x).natAbs<=?bA:=fun x hx=>by
    have h1:=dg.le hx;have h2:=?h3 x hx;exact qa5 O9m ?cY
   have kk:5*k+k*k<=5*?l+?l*?l:=by
    have h:k<=?l:=O9m
    have:=qf0 h h;omega
   ext yF
   have dm:∀X,d*X+X<=?zN X:=fun X=>by
    have:=qb5 X (show d+1<=5*?l+?l*?l+1 by omega);rw[qf8,qf6]at this;exact this
   have d1:=dm (2*π+4);have d2:=dm ?bG;ext yE;ext yT;have b1:BB n n (fun _=>False) 0 (β+?G*?cH+d*(2*π+4)+(1+1)) (addS i j 1 l):=bl.add O9m O9m (k:=1) (c:=1) ?aG;have lt1:∀{x:Nat},x<=?bA->x<2 ^ (π+1):=fun h=>qc0 h (?lE);refine⟨⟨⟨?uB,?BE ?f5⟩,⟨by have:=?h3 j hj;omega,?BE ?e4⟩,⟨BB.bo bl O9m,BB.bo b1 O9m⟩,BB.bo br O9m⟩,fun jG=>⟨dg,O9m,bl.mono (by rw[qf8];omega),br.mono (by rw[qf8];omega),v1,v2,⟨pl,lo⟩,sp⟩,fun g a b' sh=>⟨?_,O9m,?_,?_,?_,?_,⟨pl,lo.congr fun x hx=>?_⟩,fun x c h1 h2 h3=>?_⟩⟩
   . have:=dg.share hij hj sh;unfold ZQ QY WQ addS blendS;simp only[qo2];exact this
   . have lb:(?nW).natAbs<2 ^ (2*π+1):=by
      refine qc0 (qh4 _ _) ?_;rw[qb2];refine qc0 (qf0 (qa5 sh.lb ?f5) ?e4) ?_;rw[←qd8];exact ?lE
     have qN:=b1.add (p:=j) (q:=i) O9m O9m (k:=-(?nW)) (c:=2*π+1) (by rw[qc7];exact lb);refine qN.mono ?_;rw[qf8,qf6];omega
   . have:=br.blend (p:=i) (q:=j) O9m O9m O9m (x:=a) (y:=b') (z:=-(f j / g)) (u:=f i / g) (c:=π+1) (lt1 (qa5 sh.la ?e4)) (lt1 (qa5 sh.lb ?f5)) (lt1 (by rw[qc7];exact qa5 (qh4 _ _) ?e4)) (lt1 (qa5 (qh4 _ _) ?f5));refine this.mono ?_;rw[qf8,qf6];omega
   . intro x y hx hy;rw[←v1 x y hx hy];exact(?BV j i).trans (?BV i j)
   . intro x y hx hy;rw[←v2 x y hx hy];exact dU _ _ (?zL i w) (?zL j w) O9m (sh.blend (π:=π) (?uB) ?f5 ?e4).one x y
   . exact ?sC
   . have e:(QY i j g a b' f r).1 x=r.1 x:=?sC;rw[e];exact sp x c h1 h2 h3
 . rintro k d f l r ⟨dg,hd,bl,br,v1,v2,lo,sp⟩;have h:k<=?l:=?pR
   have kk:=qf0 h h;have f1:=p.f1;have f2:=p.f2;have dm:∀X,d*X<=?zN X:=fun X=>qb5 X O9m;ext yE;have d1:=dm (2*π+4);have d2:=dm ?bG;ext yT;exact⟨dg,v1,v2,⟨(?zR bl.mono).1,(?zR bl.mono).2.1⟩,⟨(?zR br.mono).1,(?zR br.mono).2.1⟩,lo,sp⟩
universe e9
universe Hb
namespace Lat
open Hb
noncomputable def mulV(w:Nat)(A:Mat)(x:?z):?z:=fun i=>Al (fun j=>A i j*x j) w
theorem fB(n w:Nat)(A:Mat)(p x:?z):Lb n w A p x=Al (fun a=>p a*?aM w A x a) n:=rfl
theorem pO{w:Nat}{Q QB:Mat}(h:∀a b,a<w->b<w->pT w QB Q a b=if a=b then 1 else 0)(x:?z):∀c,c<w->x c=Al (fun y=>?zU x y*Q y c) w:=BD (P':=fun _=>x) h 0
noncomputable def numAt[?fX](k i:Nat):Int:=if i<k then f i else 0
section
variable[?z2][?cP]
universe e9
universe Lat
namespace Hb
open PySem L2
section
variable[?v]
universe e9
section
variable[?v]
universe e9
universe Hb
namespace Lat
open Hb
section
variable[?z2][?cP]
theorem qO{u:?z}(hl:?xO)(hu:∀x,x<n->?rL=0):∀a,a<n->u a=0:=fun b hb=>by
 have e:?qE=u b:=by
  have:?qE=Al (fun x=>Al (fun a=>u a*(PB x b*P x a)) n) n:=Ao fun x _=>by
   rw[←Bh];exact Ao fun a _=>by grind
  rw[this,D8]
  rw[?c9 hb fun a ha ne=>by
   rw[Bh];have:=hl b a hb ha;unfold pT at this;rw[this,?o fun q=>ne q.symm,qf3]]
  rw[Bh];have:=hl b b hb hb;unfold pT at this;rw[this,?O,qp5]
 rw[←e];exact ?B1 hu
theorem DiagAt.spare[?z0](hl:?xO){y:Nat}(h1:k<=y)(h2:y<w):∀x,x<n->?aM w A (Q y) x=0 :=
 qO hl fun x hx=>by
  have:=?m8 x y hx h2;rw[fB]at this;rw[this];by_cases z:x=y
  . rw[?b5,z];exact ?hM y h1 O9m h2
  . rw[?dH]
theorem DiagAt.madeS[?z0](hr:?oU){v:?z}(hv:∀x,x<n->?aM w A v x=0):∀c,c<w->v c=Al (fun i=>?jT*?g2) ?eC:=fun c hc=>by
 have mw:=h.mw;have mn:=h.mn
 have z:∀y,y<k->?l7=0:=fun y hy=>by
  have e1:?wH=0:=by
   rw[fB];exact ?B1 hv
  have e2:?wH=f y*?l7:=by
   rw[Qg (p':=P y) (q':=fun c=>Al (fun u=>?zU v u*Q u c) w) (fun _ _=>rfl) (fun b hb=>pO hr v b hb),Jh,Tt];rw[?c9 (?zL y w) fun u hu ne=>by rw[←Jh,?m8 y u ?q hu,?o fun q=>ne q.symm,qf3]];rw[←Jh,?m8 y y ?q ?q,?O,qf7]
  rw[e2]at e1;have p:=h.pos y hy;rcases qq4.mp e1 with q | q
  . omega
  . exact q
 rw[pO hr v c hc]
 have sp:∀d,k+d<=w->?u2=Al (fun i=>?jT*?g2) d:=fun d=>by
  induction d with
  | zero=>intro _;exact Bj fun y hy=>by rw[z y hy,qj6]
  | succ d ih =>
    intro hd;have i1:=?k1;show ?u2+?zU v (k+d)*Q (k+d) c=_;rw[i1];rfl
 have:=sp ?eC O9m;rw[show k+?eC=w by omega]at this;exact this
universe e9
section
variable{n w m i:Nat}{d v:?z}{A:Mat}
universe e9
universe Lat
namespace Hb
open Lat
noncomputable def nQ(n w b0 π b β π2 b2 β2 C1 C2 F:Nat):Bool :=
 (?f (n*?bA<=?cG/\w*?bA<=?cG/\b0<=π/\π<=b/\b<β/\n+b0<β)&&(Zw n (fun i=>?f (?oX))&&(?f (?q0) &&
 (Zw (?l+1) (fun i=>?f (?lN<=?eD))&&(?f (w*?eD<=?lZ/\b<=π2/\π2<=b2/\b2<β2/\w+b<β2)&&(Zw w (fun i=>?f (?s5))&&(?f (?w1) &&
 (Zw (?l+1) (fun r=>?f (Mo π b π r n<=C1/\Mo π b π2 r w<=C2)) &&
 ?f (?BY F/\?C2 F/\F<=tZ)))))))))
theorem NO{n w b0 π b β π2 b2 β2 C1 C2 F:Nat}(h:nQ n w b0 π b β π2 b2 β2 C1 C2 F=true):?AI (?bA) (?eD):=by
 unfold nQ at h;simp only[qc8,qp3]at h;obtain⟨⟨h2,h3,h4,h5,h6,h7⟩,h8,h9,k1,⟨k2,k3,k4,k5,k6⟩,k7,k8,k9,m1,m2,m3⟩:=h
 exact⟨?aN,h2,h3,h4,h5,h6,h7,fun i hi=>qd7 (K9 h8 i hi),h9,fun i h1 h2=>qd7 (K9 k1 i O9m),?aN,k2,k3,k4,k5,k6,fun i hi=>qd7 (K9 k7 i hi),k8,
  fun r hr hw=>(qd7 (K9 k9 r O9m):_/\_).1,fun r hr hw=>(qd7 (K9 k9 r O9m):_/\_).2,m1,m2,m3⟩
universe Hb
namespace Lat
open Hb
noncomputable def KP:(?H)->?H
 | _,0=>1
 | B,n+1=>B 0*?f4
theorem Vx:∀{n:Nat}{A:Mat}{B:?H},(∀r c,r<n->c<n->(A r c).natAbs<=B r)->(det n A).natAbs<=cF n*?lC
 | 0,A,B,_=>by show(1:Int).natAbs<=1*1;decide
 | n+1,A,B,h=>by
   rw[CG]
   have e:(Al (fun j=>Sf j*A 0 j*det n (Wh A j)) ?K).natAbs<=?K*(B 0*(cF n*?f4)):=Ow fun j hj=>by
    have d:=Vx (n:=n) (A:=Wh A j) (B:=?lW) fun r c hr hc=>by
     unfold Wh;exact h ?bX _ O9m (by ext bT)
    rw[qb2,qb2]
    have s:(Sf j).natAbs=1:=by
     unfold Sf;split<;>rfl
    rw[s,qf6];exact qf0 (h 0 j O9m hj) d
   refine qa5 e ?wL;show ?K*(B 0*(cF n*?f4))=(?K*cF n)*(B 0*?f4)
   grind
theorem RL(B:?H):∀n,KP (fun r=>2*B r) n=2 ^ n*?lC:=fun n=>by
 induction n generalizing B with
 | zero=>rfl
 | succ n ih =>
   show 2*B 0*KP (fun r=>2*B ?bX) n=2 ^ ?K*(B 0*?f4);rw[ih ?lW,qg7]
   grind
theorem RM{B:?H}:∀{n:Nat},(∀r,r<n->0<B r)->0<?lC:=fun {n} h=>by
 induction n generalizing B with
 | zero=>exact Nat.one_pos
 | succ n ih=>exact Nat.mul_pos (h 0 O9m) (ih fun r hr=>h ?bX O9m)
theorem nG[?cP]:∀{n:Nat},(?hB f n).natAbs=KP (fun r=>(f r).natAbs) n:=fun {n}=>by
 induction n generalizing f with
 | zero=>rfl
 | succ n ih =>
   have e:∀m,?rK=f 0*?sS:=fun m=>by
    induction m with
    | zero=>show 1*f 0=f 0*1;omega
    | succ m im =>
      show ?rK*f (m+1)=f 0*(?sS*f (m+1));rw[im,qe6]
   rw[e n,qb2,ih];rfl
section
variable[?yZ]
theorem Ty.stair{k w:Nat}{Q:Mat}{p:?H}(h:?kI):Dj w ?eC (fun i=>Q ?P) fun i=>p ?P :=
 ⟨fun j hj=>h.lt ?aW O9m O9m,?AG h.inc,fun j c hj hc=>?hM ?aW c O9m O9m hc,fun j hj=>h.pos ?aW O9m O9m,?AG h.red⟩
theorem DF(st:?n0)(hB:?tK){r c:Nat}(hr:r<z)(hc:c<w):B ?d3 c=Al (fun k=>L k ?d3*T k c) ?bX:=by
 rw[hB _ _ (st.lt r hr) hc];exact Mq O9m fun k h1 h2=>by rw[st.zero k _ h2 (st.inc r k ?q h2),qj6]
theorem HZ[?nA]{i c:Nat}(hi:i<z)(hc:c<w):?l4<=2 ^ i*2:=by
 refine z6 (R:=L) (B:=T) (t:=p) (a:=c) (i:=z) ⟨fun j k _=>st.inc j k,fun j c _=>st.zero j c,fun j _=>?kS j,fun k j _=>st.red k j⟩ (?mX) i hi;rw[show Al (fun k=>T k c*L k ?cK) z=B ?cK c by rw[hB _ _ (st.lt j hj) hc];exact Ao fun k _=>?kU];have:=?kS j hj;exact qa5 (b2 _ _ (st.lt j hj) hc) (qi0 _ O9m)
theorem mF[?nA]:∀i,i<=z->∀s:?H,(∀l,l<i->s l<w+z)->(det i ?rS).natAbs<=?v7:=fun i hi s hs=>by
 let Z:Mat:=?rS
 let V:Mat:=fun r l=>?xQ
 have e:det i V=?hB (fun j=>L j ?cK) i*?vS:=bD (T:=fun r j=>?lT) (fun r c _ _=>rfl) i ?Z
 have e2:?vS=det i Z:=Cz fun r c hr _=>by
  show(if r<i then Z r c else V r c)=Z r c;rw[?D hr]
 rw[e2]at e
 have vle:∀r l,r<i->l<i->(?hK).natAbs<=2*?jZ:=fun r l hr hl=>by
  have pr:=?tT;by_cases c1:s l<w
  . have:?hK=B ?d3 (s l):=by
     rw[DF st hB ?q c1];exact Ao fun j _=>by show ?lT*?vQ=_;rw[beside_lo c1]
    rw[this];exact qa5 (b2 _ _ (st.lt r O9m) c1) O9m
  . have zv:∀j,Z j l=if j=?dF then 1 else 0:=fun j=>by
     show ?vQ=_;unfold beside;rw[?o c1];rfl
    by_cases c2:?dF<r+1
    . have:?hK=L (?dF) ?d3:=by
       show ?xQ=_;rw[?c9 c2 fun j _ ne=>by rw[zv,?jP,qf3],zv,?O,qp5]
      rw[this];rcases qg0 (?dF) r with q | q
      . obtain⟨r1,r2⟩:=st.red (?dF) r q O9m;omega
      . rw[show ?dF=r by omega];omega
    . have:?hK=0:=Bj fun j hj=>by rw[zv,?aB,qf3]
      rw[this];exact ?a1
 have big:=Vx (B:=fun r=>2*?jZ) vle;rw[e,qb2,nG,RL]at big;have pos:0<?qR:=RM fun r hr=>by have:=?tT;omega
 refine qr4 (c:=?qR) ?_ pos;refine qa5 big ?wL
 grind
universe e9
structure Lev(q m z:Nat)(D L G:Mat):Prop where
 st:∃p,?n0
 du:∀i j,i<z->j<z->Al (fun c=>G i c*L j c) m=?oB
 cyc:∀i,i<z->?A5 (L i)
 all:∀v:?z,(?A5 v)->∀c,c<m->v c=Al (fun i=>Al (fun a=>?dE*v a) m*L i c) z
noncomputable def gT(m:Nat)(G B:Mat):Mat:=fun i c=>?xG
section
variable{q m z w:Nat}{D L G B:Mat}
theorem Lev.first(m:Nat)(D:Mat):Lev 0 m m D one one:=by
 have d:∀i j,i<m->j<m->Al (fun c=>one i c*one j c) m=?oB:=fun i j hi hj=>by
  rw[?c9 hi fun k _ ne=>?s8];unfold one;rw[?O,qd1];by_cases z:i=j
  . rw[?b5,?D ?bM]
  . rw[?dH,?o fun y=>z y.symm]
 refine⟨⟨fun i=>i,fun j hj=>hj,fun j k h _=>h,fun j c _ hc=>?o O9m,fun j _=>by show 0<one j j;unfold one;rw[?O];decide,fun k j hk _=>?_⟩,d,fun i _ x hx=>O9m,fun v _ c hc=>?_⟩
 . show 0<=one k j/\one k j<one j j;unfold one;rw[?aB,?O];decide
 . rw[?c9 hc fun i hi ne=>by
    show _*one i c=0;unfold one;rw[?jP,qf3]]
   show v c=Al (fun a=>one c a*v a) m*one c c;rw[?c9 hc fun a _ ne=>?s8];unfold one;rw[?O,qd1,qp5]
theorem Lev.told[?yJ]:∀a c,a<m->c<w->?cD=Al (fun i=>L i a*gT m G B i c) z:=fun a c ha hc=>by
 rw[h.all (fun a=>?cD) (tw c hc) a ha];exact Ao fun i _=>?kU
theorem YU(m w:Nat)(G B:Mat)(v:?z)(i:Nat):?lA=Al (fun a=>?dE*?aM w B v a) m:=by
 have e1:?lA=Al (fun c=>Al (fun a=>?dE*?cD*v c) m) w:=Ao fun c _=>by
  show ?xG*v c=_;rw[←Gm]
 rw[e1,D8]
 exact Ao fun a _=>by
  show Al (fun c=>?dE*?cD*v c) w=?dE*Al (fun c=>?cD*v c) w;rw[←Bh];exact Ao fun c _=>qe6 ..
theorem Lev.next{E k:Nat}[?cP]{P PB Q QB:Mat}{p:?H}[?yJ](dg:?mM z w k E (gT m G B) P PB Q QB f)(il:Nf z (P,PB))(ir:?oU)(lo:?kI) :
 Lev m w ?eC B (fun i=>Q ?P) fun i=>QB ?P:=by
 have tl:=h.told tw;have mw:=dg.mw;refine⟨⟨_,lo.stair⟩,fun i j hi hj=>?_,fun i hi x hx=>?_,fun v hv c hc=>?_⟩
 . have:=dg.dr ?aW ?P O9m O9m;unfold pD at this;rw[show Al (fun c=>?rZ*Q ?aW c) w=Al (fun c=>Q ?aW (0+c)*?rZ) w from Ao fun c _=>by rw[qt7,qf7],this];by_cases z:i=j
   . rw[?b5,?f3]
   . rw[?dH,?aB]
 . have t0:=dg.spare il (y:=k+i) O9m O9m
   have e:?pM=Al (fun a=>L a x*?aM w (gT m G B) (Q ?P) a) z:=by
    have e1:?pM=Al (fun c=>Al (fun a=>L a x*?uQ*?g2) z) w:=Ao fun c hc=>by
     rw[tl x c hx hc,←Gm]
    rw[e1,D8]
    exact Ao fun a _=>by
     show _=L a x*Al (fun c=>?uQ*?g2) w;rw[←Bh];exact Ao fun c _=>qe6 ..
   rw[e];exact ?B2 t0
 . have t0:∀i,i<z->?lA=0:=fun i _=>by
    rw[YU];exact ?B2 hv
   rw[dg.madeS ir t0 c hc];exact Ao fun i _=>by rw[show ?jT=Al (fun a=>?q7*v a) w from Ao fun a _=>?kU]
universe e9
section
variable{q m z w k E:Nat}{D L G B P PB Q QB:Mat}[?cP]
noncomputable def turnL(z:Nat)(P L:Mat):Mat:=fun i c=>Al (fun j=>P i j*L j c) z
universe e9
universe Lat
namespace Hb
open Lat
noncomputable def kB(n:Nat):Nat:=?v2 (?k9)+1
noncomputable def oF(f:?H):?H
 | 0=>f 0
 | n+1=>max (f ?K) (oF f n)
noncomputable def kP(b i:Nat):Nat:=max b (?v2 (?lN)+1)
noncomputable def kS(n w:Nat):Nat:=?mT+6
noncomputable def bookF:Nat:=27000000
noncomputable def Ap4(n w:Nat):Bool:=nQ n w ?K ?gJ ?g3 (kB n+n+8) (?mT) (kS n w) (kS n w+w+2) (?B6 ?gJ n) (?B6 (?mT) w) ?a8
theorem TY:(Zw 41 fun n=>Zw (41-n) fun w=>Ap4 n w)=true:=?i
theorem yY:∀{i n:Nat},i<=n->?v7<=?k9:=fun {i n} h=>by
 induction n with
 | zero=>rw[show i=0 by omega];exact ?aN
 | succ n ih =>
   by_cases e:i=n+1
   . rw[e];exact ?aN
   . refine qa5 (?k1) ?_;show ?k9<=?K*cF n*2 ^ ?K;exact qf0 (qm5 _ O9m) (?oE)
theorem AV[?yZ][?nA](h:z+w<=40):P1 z w T (uG z w (2 ^ kB z) ?a8 (kS z w) T):=by
 have P:=NO (K9 (K9 TY z O9m) w O9m);refine Ag7 P (fun i c hi hc=>?_) fun i hi s hs=>?_
 . refine qa5 (HZ st hB b2 hi hc) ?_;rw[←qg7];exact ?oE
 . refine qa5 (mF st hB b2 i hi s hs) (qa5 (yY hi) ?_);exact qd4 Nat.lt_log2_self
universe Hb
namespace Hb
open PySem L2
noncomputable abbrev Ms:=?tU
noncomputable def nd(ms:Ms):Prop:=(?C (·.1)).Nodup
noncomputable def nz(ms:Ms):Prop:=∀p∈ms,p.2≠0
noncomputable def Ji(ms:Ms)(k n:Int):Ms:=if ?iT=0 then ?bW else putI ms k (?iT)
noncomputable def Gn(ms ns:Ms):Ms:=ns.foldl (fun acc p=>Ji acc p.1 p.2) ms
noncomputable def T5(n:Int)(ms:Ms):Ms:=if n=0 then [] else ?C fun p=>(p.1,n*p.2)
noncomputable def R6(ms:Ms):Ms:=?BL ms.filter (p.2≠0)
theorem Ur[?j7](h:?mB=?eP):?h6∈ms:=by
 induction ms with
 | nil=>simp[C3]at h
 | cons p ms ih =>
   rw[Dl]at h;by_cases e:?cT
   . rw[?e6]at h;have:p=?h6:=by cases p;simp_all
     rw[this];exact ?jX
   . rw[?hA]at h;exact qd0 _ (ih h)
theorem lC{ms:Ms}{k:Int}(h:k ∉ ?C (·.1)):?mB=none:=by
 cases e:C3 ms k with
 | none=>rfl
 | some v=>exact ?eH (qo0 (f:=(·.1)) (Ur e)) h
theorem EJ[?aS]{p:?R}(hp:p∈ms):C3 ms p.1=?c p.2:=by
 induction ms with
 | nil=>cases hp
 | cons q ms ih =>
   rw[Dl];ext fS;rcases qb7.mp hp with rfl | hp
   . rw[?O]
   . have:¬q.1=p.1:=fun z=>h.1 (by rw[z];exact qo0 (f:=(·.1)) hp);rw[?mW];exact ih h.2 hp
theorem M7{ms:Ms}{k:Int}(h:k ∉ ?C (·.1)):?a7=0:=by unfold Da;rw[lC h];rfl
theorem M8(p:?R)(ms:Ms)(k:Int):Da ?gR k=if ?cT then p.2 else ?a7:=by
 unfold Da;rw[Dl];split<;>rfl
theorem oJ:∀(l1 l2:?e),l1.Nodup->(∀x∈l1,x∈l2)->l1.length<=l2.length
 | [],l2,_,_=>?a1
 | x::l1,l2,h,hs=>by
   rw[qi5]at h;have hx:=hs x ?hI
   have:=oJ l1 (l2.erase x) h.2 fun y hy=>by
    have ne:y≠x:=fun z=>h.1 (z▸hy);exact(List.mem_erase_of_ne ne).mpr (hs y (qd0 _ hy))
   have e:=List.length_erase_of_mem hx;have:0<l2.length:=List.length_pos_of_mem hx;rw[qc5];omega
theorem sO[?aS](k:Int):nd (?bW):=by
 unfold nd Hw at *;ext yO
theorem sJ[?j6](k:Int):nz (?bW):=fun p hp=>h p (?gL hp).1
theorem W2{ms:Ms}{k:Int}:(?BL ms.any (?cT))=true↔k∈?C (·.1):=by
 rw[qn7,qf2];constructor
 . ext yN
 . ext yN
theorem xU[?aS](k v:Int):nd ?gX:=by
 unfold nd putI at *;split
 . rw[qm0]
   have e:((fun p:?R=>p.1) ∘ fun p:?R=>?kE)=(·.1):=by
    funext p
    simp only[Function.comp];split<;>rfl
   rw[e];exact h
 . rename_i hn
   rw[W2]at hn;rw[qb0,qv9];refine⟨h,?hT,fun a ha b hb e=>?_⟩;have:b=k:=?iX
   exact hn (by rw[←this,←e];exact ha)
theorem jB[?j7]{p:?R}(hp:p∈?iL):p∈ms\/p=?h6:=by
 unfold putI at hp;split at hp
 . obtain⟨q,hq,e⟩:=?gA;by_cases z:q.1=k
   . rw[?b5]at e;right;rw[←e,z]
   . rw[?dH]at e;left;rw[←e];exact hq
 . rcases qj5.mp hp with h | h
   . exact ?g h
   . exact ?AN ?t
theorem sX(ms:Ms)(k v:Int):?AV ?iL ?uS:=by
 unfold putI;split
 . rw[qa2];omega
 . rw[qb1];simp
theorem OJ(ms:Ms)(k:Int):?AV ?bW ms.length:=qg2 ..
theorem XG[?j6]{k v:Int}(hv:v≠0):nz ?gX:=fun p hp=>by
 rcases jB hp with q | q
 . exact h p q
 . rw[q];exact hv
theorem OB[?aS](k n:Int):nd ?f2:=by unfold Ji;split;exact sO h k;exact xU h k _
theorem nV[?j6](k n:Int):nz ?f2:=by
 unfold Ji;split
 . exact sJ h k
 . rename_i q;exact XG h q
theorem bW(ms:Ms)(k n:Int):?AV ?kJ ?uS:=by
 unfold Ji;split
 . have:=OJ ms k;omega
 . exact sX ..
theorem jH(ms:Ms)(k n j:Int):Da ?f2 j=if j=k then ?hJ+n else ?hJ:=by
 unfold Ji;split
 . rename_i q
   unfold Da at *;rw[GN];by_cases e:j=k
   . subst e;simp;omega
   . simp[e]
 . unfold Da at *;rw[LB];by_cases e:j=k
   . subst e;simp
   . simp[e]
theorem IV:∀(ns ms:Ms),?bV->nz ms->nd ns->nd ?dQ/\nz ?dQ/\?sU/\∀j,Da ?dQ j=?hJ+Da ns j
 | [],ms,h1,h2,_=>⟨h1,h2,?t5,fun j=>by simp[Gn,Da,C3]⟩
 | p::ns,ms,h1,h2,h3=>by
   unfold nd at h3;rw[qd5,qi5]at h3;obtain⟨r1,r2,r3,r4⟩:=IV ns (Ji ms p.1 p.2) (OB h1 _ _) (nV h2 _ _) h3.2;refine⟨r1,r2,?_,fun j=>?_⟩
   . have:=?uT;ext yP
   . show Da (?wT) j=_;rw[r4,jH,M8];by_cases e:j=p.1
     . have:=M7 h3.1;subst e;simp[this]
     . have e':¬p.1=j:=?AC e;simp[e,e']
theorem Ai1[?aS]:nd (R6 ms):=by
 unfold nd R6 at *;ext yO
noncomputable def inK(ms:Ms):Prop:=∀p∈ms,?mU/\p.1<40
theorem gJ[?aS](n:Int):nd (?C fun p=>(p.1,n*p.2)):=by
 unfold nd at *;rw[qm0];exact h
theorem eK:∀(ns ms:Ms),?sU
 | [],ms=>?t5
 | p::ns,ms=>by
   have h1:=eK ns (Ji ms p.1 p.2);have h2:=?uT;ext yP
theorem KQ{ms ns:Ms}{i:Nat}[?fW](h:ns[i]?=?bO):Gn ms (ns.take ?b2)=Ji (Gn ms (ns.take i)) q.1 q.2:=by
 unfold Gn;rw[qr8,h,qs0];rfl
theorem lY{ms:Ms}{i:Nat}[?fW](hq:ms[i]?=?bO):R6 (ms.take ?b2)=if q.2=0 then R6 (ms.take i) else R6 (ms.take i)++[q]:=by
 unfold R6;rw[qr8,hq,qg3];by_cases e:q.2=0<;>simp[e]
theorem sY(ms:Ms):(R6 ms).length<=ms.length:=qg2 ..
section
variable{H H1:Hp}{a:Addr}[?j7]
theorem jI(rd:?m1):?rX:=?AA k
theorem TQ(h:H a=?bJ)(hl:?xK):ZO H a (?S) (?d v) (upd H a (.dK (cK ?gX))):=by
 rw[←HW];exact ?g ⟨?bI,?g k,h,rfl,by unfold cK;rw[qa2];exact small hl,rfl⟩
theorem Zp{i:Nat}{kk:Key}{x:V}(h:(?bI)[i]?=?c (kk,x)):∃p:?R,ms[i]?=?h1/\kk=?g p.1/\x=?d p.2:=by
 unfold cK at h;rw[qa8]at h;cases e:ms[i]? with
 | none=>rw[e]at h;cases h
 | some p =>
   rw[e]at h;have:=qe1 h;simp only[Prod.mk.injEq]at this;exact⟨p,rfl,this.1.symm,this.2.symm⟩
theorem R7:(?bI).length=ms.length:=by unfold cK;rw[qa2]
theorem WH{o:HO}(h:H a=?aQ):upd H a o=H:=by
 funext b
 by_cases e:b=a
 . rw[e,Ab,h]
 . rw[Ak e]
theorem EO{x:HO}[?b8](h:(upd H a x) D=none):?aD/\D≠a:=by
 have n:D≠a:=fun z=>by rw[z,Ab]at h;cases h
 rw[Ak n]at h;exact⟨h,n⟩
theorem RE{o:HO}{b:Addr}(s:?E H H1)(h:Rd H b o):Rd H1 b o:=by
 rcases h with h|⟨q,h⟩
 . exact ?g (s _ _ h)
 . exact ?t ⟨q,s _ _ h⟩
universe e9
theorem put_new[?j7](h:k ∉ ?C (·.1)):?iL=ms++[?h6]:=by
 unfold putI;rw[?o (fun z=>h (W2.mp z))]
noncomputable def xH(H:Hp)(ms:Ms)(Q:V->?M):Prop:=∀[?fV],?aD->?B->?aP=?bJ->?aK
section
variable[?v]
noncomputable def P7[?g0]:Sp:=fun vs H Q _=>V6 fun ?aA ?cM (k n:Int)=>B6 (vs=[?s,?S,?cI]) (H a=?bJ) (?xK) (Q ?bH (upd H a (.dK (cK ?f2))))
noncomputable def IP[?g0]:Sp:=fun vs H Q _=>V6 fun ?c4 (ms ns:Ms)=>Hq ?i0 (?m1) (H b=?zK ns) ?fN (ns.length<=1000) (xH H ?dQ Q)
noncomputable def dG[?g0]:Sp:=fun vs H Q _=>Og fun ?b0 ?aA ?cM=>Dn (vs=[?cI,?s]) (H a=?bJ) ?fN ((∀p∈ms,?eX n p.2)) (xH H ?xI Q)
universe e9
universe Hb
namespace Hb
noncomputable def FQ(t f:Int):Int:=if f=t then t+1 else if f=t+1 then t else f
noncomputable def Hs(ys:Am)(t:Nat):Am:=ys.take t++[?iI,?jI]++ys.drop (t+2)
noncomputable def Sh(ys:Am)(t:Nat):Am:=?rI ?oJ
noncomputable def fQ(t k:Nat):Nat:=if k=t then t+1 else if k=t+1 then t else k
theorem iM(t k:Nat):FQ ?c2 ?I=(?iE:Nat):=by
 unfold FQ fQ;by_cases a:k=t
 . rw[?f3,?D a];omega
 . by_cases b:k=t+1
   . rw[?aB,?f3,?o a,?D b]
   . rw[?aB,?aB,?o a,?o b]
theorem qW(t k:Nat):fQ t (?iE)=k:=by
 unfold fQ
 repeat' split
 all_goals omega
theorem kJ[?j4](k:Nat):(?gP)[k]?=?qV:=by
 unfold Hs fQ;have e1:?iI=ys[t+1]:=by rw[qa4,qa0 h];rfl
 have e0:?jI=ys[t]:=?rM
 rw[e1,e0,qs1];have lt:(ys.take t).length=t:=by rw[qc1];omega
 by_cases a:k<t
 . rw[?eR,qi7,?D a,?aB,?aB]
 . rw[qc4 ?q,lt];by_cases b:k=t
   . subst b;rw[?O,qh5];exact(qa0 h).symm
   . by_cases c:k=t+1
     . subst c;rw[?o b,?O,show t+1-t=1 by omega];exact(?dC).symm
     . rw[?o b,?o c];rw[qc4 (by simp;omega),qr1]
       congr 1
       simp;omega
theorem y6[?j4](k:Nat):(?eA)[k]?=(?qV).map ?oJ:=by
 unfold Sh;rw[qa8,kJ h]
theorem dD{ys:Am}{t:Nat}(hs:Cg ys)(h:?jA)(hm:?qQ):Cg (?eA):=by
 intro k p' EM;rw[y6 h]at EM;cases e:ys[fQ t k]? with
 | none=>rw[e]at EM;cases EM
 | some p =>
   rw[e]at EM;have hp:?s4=p':=qe1 EM;subst hp;have F:=hs _ _ e
   have face:∀f∈p,∃(m:Nat) (q:?e),f=?gV/\?kB/\lev q+1=lev p/\?tH:=by
    intro f hf;obtain⟨q,hq,hl⟩:=?pL;have f0:=F.low f hf;obtain⟨m,rfl⟩:=qk3 f0;rw[qe4,qi7]at hq;split at hq
    case isFalse=>cases hq
    case isTrue hlt =>
     refine⟨m,q,rfl,hq,hl,?_⟩
     have hk:k=t->m≠t:=by
      rintro rfl z;subst z;apply hm;have:fQ m m=m+1:=by simp[fQ]
      rw[this]at e;rw[qa4,e];exact hf
     unfold fQ at hlt ⊢
     repeat' split at hlt
     all_goals repeat' split
     all_goals first | omega | (have:=hk (by assumption);omega)
   have look:∀(m:Nat) (q:?e),?kB->?tH->((?eA).take k)[(FQ ?c2 ?gV).toNat]?=?c (q.map (FQ t)):=by
    intro m q hq hlt;rw[iM,qe4,qi7,?D hlt,y6 h,qW,hq];rfl
   refine⟨by simpa using F.cnt,?wS,?wS,fun h3 i j f' g' q' r' hij hj hi hq' hr'=>?_⟩
   . obtain⟨f,hf,rfl⟩:=?X hf';obtain⟨m,q,rfl,_⟩:=?qI;rw[iM];omega
   . obtain⟨f,hf,rfl⟩:=?X hf';obtain⟨m,q,rfl,hq,hl,hlt⟩:=?qI;refine⟨_,?pP,?_⟩;unfold lev at *;rw[qa2,qa2];exact hl
   . rw[qa8]at hj hi;cases ej:p[j]? with
     | none=>rw[ej]at hj;cases hj
     | some f =>
       cases ei:p[i]? with
       | none=>rw[ei]at hi;cases hi
       | some g =>
         rw[ej]at hj;rw[ei]at hi;cases hj;cases hi;obtain⟨m,q,rfl,hq,_,hlt⟩:=?aI f ?qZ;obtain⟨n,r,rfl,hr,_,A73⟩:=?aI g ?sL;rw[?pP]at hq';rw[look n r hr A73]at hr';cases hq';cases hr'
         have below:∀(m:Nat) (q:?e),?gV∈p->?kB->(ys.take (?iE))[((m:Nat):Int).toNat]?=?bO:=by
          intro m q hm' hq;obtain⟨q2,hq2,_⟩:=F.bel _ hm';rw[qe4]at hq2 ⊢;rw[qi7]at hq2 ⊢;split at hq2
          case isFalse=>cases hq2
          case isTrue z=>rw[?b5];exact hq
         have:=F.agr (by simpa using h3) i j _ _ q r hij ej ei (below m q ?qZ hq) (below n r ?sL hr);rw[qa8,qa8,this]
universe Hb
namespace Hb
open PySem L2
noncomputable def Qq(os:?e)(t:Nat):?e:=os.take t++[?y7,os.getD t 0]++os.drop (t+2)
theorem y7[?j4]:(?gP).length=ys.length:=by
 unfold Hs;simp only[qb1,qc1,qg6,qc5,qh2];omega
theorem kI[?j4]:(?eA).length=ys.length:=by
 unfold Sh;rw[qa2,y7 h]
theorem KI{os:?e}{t:Nat}(h:t+1<os.length):(?m9).length=os.length:=by
 unfold Qq;simp only[qb1,qc1,qg6,qc5,qh2];omega
inductive Io(xs:Am):?AB Am ?e
 | refl:Io xs xs (iK ?aV)
 | step {ys:Am}{os:?e} (t:Nat):?jV->?jA->?qQ->Io xs (?eA) (?m9)
theorem Io.len[?nJ]:ys.length=xs.length/\os.length=xs.length:=by
 induction h with
 | refl=>exact⟨rfl,P4 _⟩
 | step t h1 h2 _ ih=>exact⟨(kI h2).trans ih.1,(KI O9m).trans ih.2⟩
theorem Io.shape[?nJ](hs:?b4):Cg ys:=by
 induction h with
 | refl=>exact hs
 | step t h1 h2 h3 ih=>exact dD ih h2 h3
theorem Go{α:Type}{l:?F α}{i:Nat}{d:α}:?rV∈l\/?rV=d:=by
 rw[qa4];by_cases h:i<l.length
 . rw[qa0 h];exact ?g (qd3 h)
 . rw[qg9 ?q];exact ?t rfl
theorem aG{ys:Am}{t:Nat}[?fZ](h:p∈?gP):p∈ys\/p=[]:=by
 unfold Hs at h;simp only[qj5,qb7,qe5,or_false]at h;rcases h with(h | h | h) | h
 . exact ?g (qn2 h)
 . subst h;exact Go
 . subst h;exact Go
 . exact ?g (List.mem_of_mem_drop h)
theorem Io.le4[?nJ](h4:?iD):∀y∈ys,y.length<=4:=by
 induction h with
 | refl=>exact h4
 | step t h1 h2 _ ih =>
   intro y hy;unfold Sh at hy;obtain⟨p,hp,rfl⟩:=?X hy;rw[qa2];rcases aG hp with q | q
   . exact ih p q
   . subst q;exact ?a1
theorem AD{xs:Am}(h:?b4):?iD:=fun x hx=>by
 obtain⟨k,hk⟩:=qh7 hx;have:=(h k x hk).cnt;omega
theorem SV(t f:Int):(C3 ?pW f).getD f=FQ t f:=by
 unfold C3 FQ;rw[ql6];by_cases h1:t=f
 . subst h1;simp
 . rw[show ?f (t=f)=false by ext dX,ql6];by_cases h2:t+1=f
   . subst h2;have:¬t+1=t:=O9m
     rw[qg4 rfl,?mW,?O];rfl
   . rw[show ?f (t+1=f)=false by simpa using h2,List.find?_nil];rw[?o (?AC h1),?o (?AC h2)];rfl
theorem tR(t:Int):G8 [] [(Sum.inl t,?w ?dB),(Sum.inl ?dB,?w t)]=cK ?pW:=by
 show Ma (Ma (cK []) (Sum.inl t) (?w ?dB)) (Sum.inl ?dB) (?w t)=_;rw[HW,HW];have:¬t=t+1:=O9m
 simp[putI,this]
section
variable[?bS]
theorem Ao9{a:Addr}{ms:?tU}{k:Int}(rd:?m1):?rX:=?AA k
theorem kN[?J]{ys:Am}{t:Nat}{va vb:V}(r:?bD K H vs (ys.map tI))(ha:TI K H va (?jI))(hb:TI K H vb (?iI)) :
 ?bD K H (Cf vs ?aR ?oG++[vb,va]++Cf vs (?c (?c2+2)) ?aR) (?rI tI):=by
 ext yQ;unfold Hs;rw[qb0,qb0,qo8,qo9];exact((r.take t).append ((?q8 hb).append (?q8 ha))).append (r.drop (t+2))
theorem LG{os:?e}{t:Nat}:Cf (os.map ?w) ?aR ?oG++[?w (?y7),?w (os.getD t 0)]++Cf (os.map ?w) (?c (?c2+2)) ?aR=(?m9).map ?w:=by
 ext yQ;unfold Qq;simp
universe e9
section
variable[?v]
noncomputable def Li:Sp:=fun vs H Q _=>V6 fun(a l:Addr) ?m2 ?x=>Mn (vs=[?s,?j l]) ?Q (?B0 l ?d0) (ns.length<=63) ?d5 ?l0 (∀(R p o:Addr) [?g1] (ys:Am) (os:?e) (H':Hp),?B->H' R=?c (?N [?b9,?j o])->?gW->H o=none->?pH->H' o=?zG (os.map ?w)->?bD K H' us (ys.map tI)->?jV->?xP)
universe e9
universe Hb
namespace L2
open PySem PySem.Spec PyProof.Rows
open AutoSeq1 (wpAny_loadPart')
theorem lR(t:Addr)(vs:?mY)(n:Nat)(dd:OAddr)(sl:Q5):Meets (Builtin.«enumerate.__new__» ⟨[?hP,?eV],[]⟩) (fun _ R s=>?vZ t=?c { cls:=?dM,dict:=dd,data:=?xR,slots:=sl } ∧
 R (.ok (.ret (?j ?u4))) { s with heap:=(?g8).push ?kZ }) :=
 .of_wp fun prog w A R s h=>by
  obtain⟨hp,g,d,tk,os⟩:=s;obtain⟨q1,q2⟩:=h;have hsub:=sub_enumerate;have gt:Heap.IsTuple (Shared.heap ⟨hp,g,d,tk,os⟩) t vs:=⟨_,q1,rfl,n,rfl⟩
  wp_walk using wpAny_loadPart' q1
  refine wpAny_stack_any fun st=>qc6 ?_;split
  . rename_i c _ _ _ _ _
    cases (c==Value.type ?bE)
    . ext nG
      exact ?k5
    . ext nG
      exact ?k5
  . ext nG
    exact ?k5
section
variable[?nN]{E:?gU}{s:Shared}
theorem gY[?nL]{x old:Value}{Q:?gU}[?nB](gx:vs[n]?=?c x)(ne:e≠j)
 (k:∀h',?o4->?sK->?zT x->?qB →
   ?AU (?iQ)) :
 ?A2 (Builtin.«enumerate.__next__» ⟨[?j e],[]⟩) (fun fin s'=>∃r,fin=.done (.ret r)/\Q r s'):=by
 obtain⟨hp,g,d,tk,os⟩:=s;ext yD;refine qa7 (Js gj gt gx fun k1 gj1 w1=>?_)
 replace w1:?cB j hp k1:=w1
 have ge1:?AM k1 n:=(w1.2 e ne).trans ge;show ?zY 3 ?kT;refine qa7 (qh3 ge1 rfl (x:=?kL n) rfl ?_);show ?zY 4 ?kT;refine qa7 (qh3 ge1 rfl (x:=?W) rfl ?_);show ?a4 _ _ (mkInt n>>=_) _ _ ?kT;refine qa7 (wpAny_mkInt ?_);show ?a4 _ _ (?xL ?aZ 3 (?kL ?aH)>>=_) _ _ ⟨k1,g,d,tk+1,os⟩;refine qa7 (qi2 ge1 ?L fun k2 ge2 w2=>?_)
 replace w2:?cB e k1 k2:=w2
 replace ge2:?AM k2 ?aH:=ge2
 show ?zH (?xL ?aZ 4 ?W>>=_) k2;refine qa7 (qi2 ge2 ?L fun k3 ge3 w3=>?_)
 replace w3:?cB e k2 k3:=w3
 replace ge3:?AM k3 ?aH:=ge3
 show ?zH (newTuple [?s9,x]>>=_) k3;refine qa7 (wpAny_newTuple ?_);have ge4:?AM (?tM) ?aH:=qa6 _ ge3;generalize GQ:?tM=k4 at ge4;have sz:k3.objs.size=hp.objs.size:=by rw[w3.1,w2.1,w1.1]
 have le:e<hp.objs.size:=qb3 ge;have gt4:k4.get? ?iM=?c ?pO:=by rw[←GQ,←sz];exact ?rR
 have sz4:k4.objs.size=hp.objs.size+1:=by rw[←GQ,qi3,sz]
 have kp4:∀b o,?fI->b≠j->hp.get? b=?aQ->k4.get? b=?aQ:=fun b o n1 n2 q=>by
  rw[←GQ];exact qa6 _ (?rY b o n1 (?pV b o n1 (w1.extBut b o n2 q)))
 have gj4:k4.IsTupleIter j t ?K:=by
  rw[←GQ];obtain⟨o,q,r⟩:=(gj1.extBut ?pV ?eW).extBut ?rY ?eW;exact⟨o,qa6 _ q,r⟩
 show ?zH (Builtin.SmallTypes.ownedTupleIsFree ?aZ>>=_) k4;rw[sz];clear GQ ge3 w3 ge2 w2 ge1 w1 gj1 sz k3 k2 k1;refine qa7 ?_;unfold Builtin.SmallTypes.ownedTupleIsFree;refine qa7 (qh3 ge4 rfl (x:=?W) rfl (qc6 ?_));simp only[if_true];refine qa7 (wpAny_rule ?_);refine qa7 (qh3 ge4 rfl (x:=old) rfl ?_);refine qa7 (qi2 ge4 ?L fun k5 ge5 w5=>?_)
 replace w5:?cB e k4 k5:=w5
 replace ge5:?b1 k5 e j ?aH x:=ge5
 show ?zH (Builtin.SmallTypes.ownedTupleHandOut ?aZ (?j ?iM)>>=_) k5;refine qa7 ?_;unfold Builtin.SmallTypes.ownedTupleHandOut;refine qa7 (qi2 ge5 ?L fun k6 ge6 w6=>?_)
 replace w6:?cB e k5 k6:=w6
 replace ge6:?kK k6 e j ?aH x ?iM:=ge6
 refine qi2 ge6 ?L fun k7 ge7 w7=>?_
 replace w7:?cB e k6 k7:=w7
 replace ge7:?kK k7 e j ?aH x ?iM:=ge7
 refine qa7 (wpAny_letGo (qc6 ⟨_,rfl,k k7 ge7 ?_ ?_ ?_ ?_⟩))
 . exact((gj4.extBut ?mQ ?eW).extBut ?l2 ?eW).extBut ?n3 ?eW
 . exact ?n3 _ _ (qk8 le) (?l2 _ _ (qk8 le) (?mQ _ _ (qk8 le) gt4))
 . rw[w7.1,w6.1,w5.1,sz4]
 . exact fun b o n1 n2 q=>?n3 b o n1 (?l2 b o n1 (?mQ b o n1 (kp4 b o n1 n2 q)))
theorem Wg[?nL]{x old:Value}[?z1][?nB](gx:vs[n]?=?c x)(ne:e≠j)
 (k:∀h',?o4->?sK->?zT x->?qB →
   ?AU (?c (?iQ))):?tI:=by
 ext yL
 unfold pyNext;exact qa7 (?zC (gY ge gj gt gx ne fun h' a b c d q=>qc6 (k h' a b c d q)))
theorem Yj[?nL]{old:Value}[?z1](hn:A.handled=none)[?nB](gx:vs[n]?=none)
 (k:∀h',Heap.ExtBut j ?f9 h'->Q ?aR ?vL):?tI:=by
 ext yL
 unfold pyNext;refine qa7 (?zC ?_);ext yD;refine qa7 (Pl hn gj gt gx fun h' x he hx=>?_);obtain⟨o,q1,q2⟩:=hx;exact qa7 (wpAny_isInstance (T:="StopIteration") (b:=true) ⟨o,q1,q2⟩ isSubtype_stop (qc6 (k _ he)))
theorem HS{t:Addr}{vs:?mY}{Q:?gU}(gt:?oQ)
 (k:∀h',?b1 h' (?fO) ?a9 0 ?W->?pU ?a9 t 0->h'.objs.size=s.heap.objs.size+2->(∀b o,?kO)->Q (?j (?fO)) ?vL) :
 ?A2 (call (?hP) [?eV]) Q:=by
 obtain⟨⟨c,dd,dt,sl⟩,q,qc,n,qd⟩:=gt
 replace qc:c=?dM:=qc
 replace qd:dt=?xR:=qd
 subst qc qd;refine callType_new F.called_enumerate ?aG (F.typeCall_enumerate_1 _) (F.newCall_enumerate_1 _) (fun obj=>F.args_object_init_2 obj _) F.entry_enumerate_new (lR t vs n dd sl) ⟨q,?_⟩;have z1:?u4=?fO:=qi3 ..;show _/\_;rw[z1]
 have ge:?b1 ((?g8).push ?kZ) (?fO) ?a9 0 ?W:=by
  have:=qc2 (?g8) (o:=?kZ) rfl;rw[z1]at this;exact this
 exact⟨?t4,k _ ge ⟨_,qa6 _ (?rR),rfl,rfl⟩ (by rw[qi3,z1]) fun b o x=>qa6 _ (qa6 _ x)⟩
universe e9
noncomputable def IteT[?v](a:Addr):It :=
 ⟨fun i H=>∃xs x,?e5/\xs[i]?=?c x,fun i H x H'=>∃p v,?gW/\x=?b9/\H'=?B5 p v/\∀xs,?e5->xs[i]?=?eP,fun i H=>∃xs,?e5/\xs.length<=i⟩
theorem FO{P:Program}{w:World}[?bU][?cO]{x1:Nat}{tpos:Pos}(a e it:Addr)(hne:e≠it):Wp P w K (.Tuple es x1 tpos) (?f7) ?n5 e (fun i h=>(∃old,?b1 h e it ?iK old)/\h.IsTupleIter it a i) where
 mem:=?hT
 obj:=fun i h st b hb=>by
  obtain⟨⟨old,h1⟩,o,h2,c,d⟩:=st;ext j3
  . exact⟨_,h1,fun v z=>by cases (show Data.fields _=Data.cell v from z)⟩
  . ext nM
    subst z;exact⟨o,h2,fun v z=>by rw[d]at z;cases z⟩
 keep:=fun i h h' st k=>by
  obtain⟨⟨old,h1⟩,h2⟩:=st;exact⟨⟨old,k e ?L _ h1⟩,h2.at fun o z=>k it ?L o z⟩
 item:=by
  ext yC;obtain⟨xs,x,hq,hx⟩:=hg;ext nI;obtain⟨u,hu,ru⟩:=rv.get hx;have fe:=hf e ?L;have fi:=?xS;have lte:e<s.heap.objs.size:=qb3 h1;have hfresh:H ?a9=none:=I.hok.fresh ?Z;refine Wg h1 h2 (?AD a) (x:=u) (by simpa using hu) hne fun h' hout yL htup hsz hk=>?_;refine⟨_,rfl,wpAny_letOwnedTupleGo_enum hout fun h3 hen Oo=>?_⟩
  replace Oo:?cB e h' h3:=Oo
  have kk:∀b o,?fI->b≠it->?p7->h3.get? b=?aQ:=fun b o n1 n2 z=>(Oo.2 b n1).trans (hk b o n1 n2 z);have tH:h3.get? ?a9=?c { cls:=?dM,data:=.seq #[?x4,u] }:=(Oo.2 _ (qk8 lte)).trans htup;have VH:h3.IsTupleIter it a ?b2:=yL.at fun o z=>(Oo.2 it hne.symm).trans z;have bS:∀b,b ∉ ?n5->?vU:=fun b hb=>?iX
  have g7:∀b v,H b=?eP->?vU:=fun b v z=>⟨Ar z fe.1,Ar z fi.1⟩
  have S7:∀b v,H b=?eP->b≠s.heap.objs.size:=fun b v z=>Ar z hfresh;refine⟨?iQ,?vH,?_,rfl,⟨?a9,x,hfresh,rfl,rfl,fun ys hy=>by rw[I.tuple_inj hy hq];exact hx⟩,⟨?rU,VH⟩,?l1⟩
  . refine Bp.step (s:=s) (h':=h3) (t':=?y6) (H':=?vH) I (g':=s.gens) (d':=s.drawn) (ch:=?n5) (?l1) (fun b o _ _ hb z _=>?mZ) (fun b o _ _ hb z _=>⟨o.slots,?mZ⟩) (fun b o hb z n=>?_) (fun b o hb z=>⟨o,?mZ⟩)
     (fun b ys z=>?qO) (fun b o v z=>?qO) (fun b ps z=>⟨#[],by rw[Ak (S7 b _ z),z];simp⟩) (?rF) (fun b v z=>?_) I.bare
    . ext j3
      . exact⟨fe.2.2.2.1,fe.2.1,fe.2.2.2.2.1,fe.2.2.2.2.2⟩
      . ext nM
        subst z;exact⟨fi.2.2.2.1,fi.2.1,fi.2.2.2.2.1,fi.2.2.2.2.2⟩
    . rw[Ak (qc9 (qb3 z))];exact n
    . obtain⟨o,es',ep,ho,r⟩:=hm;exact⟨o,es',ep,kk _ o fe.2.1.symm fi.2.1.symm ho,r⟩
    . by_cases hb:b=s.heap.objs.size
      . subst hb;rw[Ab]at z;cases z;exact⟨(by show(2:Nat)<=sizeLine;decide),[?x4,u],.cons ?f1 (.cons ru .nil),⟨_,tH,rfl,rfl,_,rfl⟩⟩
      . rw[Ak hb]at z;refine(I.hok b v z).stay (fun c y hc' q=>?_) (fun c q=>?oV) fun c ys q=>?oV
        rcases hc' with rfl | hc'
        . exact kk _ _ (?oT).1 (?oT).2 q
        . exact kk _ _ (?qT).1 (?qT).2 q
  . have lb:b<s.heap.objs.size:=by
     ext j3
     . exact lte
     . ext nM
       subst z;obtain⟨o,z,_⟩:=h2;exact qb3 z
    rw[Ak (qc9 lb)];exact(hf b hb).1
 done:=by
  ext yC;obtain⟨xs,hq,hx⟩:=hg;ext nI;obtain⟨f0,f1,f2,f3,f4,f5⟩:=?xS;have hl:=rv.length;exact Yj (I.ok.hd hc) h1 h2 (?AD a) (by simp;omega) fun h' eb=>⟨rfl,I.turned (t':=s.toks) (fun b o hb z=>eb b o hb z) f0 f1 f3 f4 f5⟩
 self:=fun _ _ _ _ _ st h=>by
  obtain⟨⟨old,h1⟩,h2⟩:=st;exact qt4 h1 h
inductive jX[?v](R:It->?M)(vs:?r)(H1:Hp):Prop
 | mk:∀a,(vs=[?s])->((∃xs,?wU))->(R (?f7) H1)->?s3
noncomputable def YG[?v](ta:TA):TI:=fun σ H R=>ta σ H fun vs H1=>?s3
theorem U9:bootBuiltins ?bE=?c (?hP):=?i
theorem NH{X:Cx}[?bU][?cO]{x1:Nat}{tpos:Pos}{a:Expr}{ta:TA}{p pos:Pos}(hg:Gl X ?bE)(hm:X.mg ?bE=none)(ha:PA X [a] ta)(hK:X.K=K:=by rfl)(hs:starEach [a] X.env=[(false,eval a X.env)]:=by rfl):PI X (.Tuple es x1 tpos) (.Call (.Name ?bE p) [a] [] pos) (YG K ta):=by
 subst hK;intro Af s σ H R I h;refine Call_ (Jt I hg hm U9 (qf1 (Du (ha pos Af s σ H _ I h) fun us s1 _z=>?_) hs rfl));obtain⟨vs,H1,I1,r1,q1⟩:=_z;obtain⟨l,e,⟨xs,hq⟩,q⟩:=q1;subst e;cases r1 with
 | cons r rr =>
   cases rr;cases r;obtain⟨its,rv,pl,hz⟩:=I1.tuple hq;refine HS (show s1.heap.IsTuple l ?gI from pl) fun h' hen hit hsz hk=>?_;refine qt4 hen ⟨?tY,[?tY,s1.heap.objs.size],_,_,H1,rfl,I1.kept (t':=s1.toks) hk,FO l _ _ (qt0 _),⟨?rU,hit⟩,?l1,q⟩
   have lb:s1.heap.objs.size<=b:=by
    ext j3
    . exact qn9 _
    . have z:b=s1.heap.objs.size:=?iX
      rw[z];exact ?aN
   exact I1.fpOk lb (I1.hok.fresh lb)
section
variable{g:TG}{tc:TT}{te:TE}[?b8]{Q:?M}{τ:St}{H:Hp}
theorem lP[?bU][?nU]{g:TG}{tb:TS}{D:Ends}{σ:St}{H:Hp}(Pv:?r0)(h0:Pv 0 σ H)(hl:∀i σ H,?xV->?kV->?e5)
 (hs:∀i x σ H p,xs[i]?=?c x->?kV->?gW->g (?b9) σ (?B5 p x) fun σ2 H2=>tb { D with nx:=?mN,ct:=?mN,bk:=D.nx } σ2 H2) (hd:∀σ H,Pv ?aV σ H->?sI) :
 ∃W:Nat->?r0,(∃m,W 0 m σ H)/\∀i m σ H,W i m σ H →
   ((?f7).stop i H/\?sI)\/((?f7).go i H/\∃N:?hV,(∀σ' H',N σ' H'->∃m',m'<m/\W ?b2 m' σ' H')/\∀x H',(?f7).yld i H x H'->g x σ H' fun σ2 H2=>tb { D with nx:=N,ct:=N,bk:=D.nx } σ2 H2):=by
 refine⟨fun i m σ H=>m=xs.length-i/\?xV/\?kV,⟨?aV,?hT,?a1,h0⟩,?_⟩;rintro i m σ H ⟨rfl,hi,pp⟩;have q:=hl i σ H hi pp;by_cases hlt:i<xs.length
 . refine ?t ⟨⟨xs,xs[i],q,by simp[hlt]⟩,?mN,fun σ' H' p'=>⟨xs.length-?b2,O9m,rfl,hlt,p'⟩,fun x H' y=>?_⟩;obtain⟨p,v,hp,rfl,rfl,y⟩:=y;exact hs i v σ _ p (y xs q) pp hp
 . have e:i=xs.length:=O9m
   subst e;exact ?g ⟨⟨xs,q,?aN⟩,hd σ H pp⟩
universe e9
universe L2
namespace Hb
noncomputable def Jr[?j8](f:Int):?z
 | 0=>0
 | i+1=>if ?d1=f then ?rC+1-?cR else ?rC
noncomputable def Wf[?j8](f:Int):Int:=Jr fs f ?iG
noncomputable def yE(x e:Int):Int:=if x=e then 1 else 0
theorem SH(e:Int):Wf [] e=0:=rfl
theorem iZ(x y e:Int):?k0=?vK:=by
 show(if y=e then(if x=e then ?c5+1-?A0 0 else 0)+1-?A0 1 else(if x=e then ?c5+1-?A0 0 else 0))=_;unfold yE;split<;>split<;>simp_all
theorem IY(x y z e:Int):Wf [x,y,z] e=?vK+yE z e:=by
 show(if z=e then ?k0+1-?A0 2 else ?k0)=_;rw[iZ];unfold yE;split<;>simp_all<;>omega
theorem OL{l:?e}(h:l.length=2):∃a b,l=[a,b]:=by
 match l,h with
 | [a,b],_=>exact⟨a,b,rfl⟩
theorem oK{l:?e}(h:l.length=3):∃a b c,l=[a,b,c]:=by
 match l,h with
 | [a,b,c],_=>exact⟨a,b,c,rfl⟩
theorem A34{l:?e}(h:l.length=4):∃a b c d,l=?sR:=by
 match l,h with
 | ?sR,_=>exact⟨a,b,c,d,rfl⟩
noncomputable def sg(i:Nat):Int:=1-?cR
theorem Ad3[?fU]{k:Nat}{q:?e}(hq:xs[k]?=?bO)(e:Int):Al (fun i=>sg i*Wf (?u (q.getD i 0).toNat []) e) q.length=0:=by
 have F:=hs k q hq
 have face:∀f∈q,∃p,?dJ=p/\(xs.take k)[f.toNat]?=?h1/\lev p+1=lev q/\(p.length=0\/p.length=2\/p.length=3\/p.length=4):=by
  intro f hf;obtain⟨p,hp,hl⟩:=?pL
  have hp2:?n7=?h1:=by
   rw[qi7]at hp;split at hp
   . exact hp
   . cases hp
  exact⟨p,by rw[qa4,hp2];rfl,hp,hl,(hs _ _ hp2).cnt⟩
 rcases F.cnt with h | h | h | h
 . rw[h];rfl
 . obtain⟨a,b,rfl⟩:=OL h;obtain⟨A,ha,_,la,ca⟩:=?xN;obtain⟨B,hb,_,lb,cb⟩:=?tC;have za:A=[]:=by ext nP;apply qq0;omega
   have zb:B=[]:=by ext nQ;apply qq0;omega
   subst za zb;show ?zA 1=0;rw[ha,hb,SH];simp
 . obtain⟨a,b,c,rfl⟩:=oK h;ext yA;obtain⟨a0,a1,rfl⟩:=OL (l:=A) (by ext nP;omega);obtain⟨b0,b1,rfl⟩:=OL (l:=B) (by ext nQ;omega);obtain⟨c0,c1,rfl⟩:=?A1 OL;ext y8;simp at e1 e2 e3;subst e1 e2 e3;show ?C0 e=0;rw[ha,hb,hc,iZ,iZ,iZ];simp[sg];omega
 . obtain⟨a,b,c,d,rfl⟩:=A34 h;ext yA;obtain⟨D,hd,gd,ld,cd⟩:=?aI d ?L;obtain⟨a0,a1,a2,rfl⟩:=oK (l:=A) (by ext nP;omega);obtain⟨b0,b1,b2,rfl⟩:=oK (l:=B) (by ext nQ;omega);obtain⟨c0,c1,c2,rfl⟩:=?A1 oK;obtain⟨d0,d1,d2,rfl⟩:=oK (l:=D) (by unfold lev at ld;simp at ld;omega);ext y8;have e4:=G 0 3 d a _ _ ?aG rfl rfl gd ga;have e5:=G 1 3 d b _ _ ?aG rfl rfl gd gb;have e6:=G 2 3 d c _ _ ?aG rfl rfl gd gc;simp at e1 e2 e3 e4 e5 e6;subst e1 e2 e3 e4 e5 e6;show ?C0 e+sg 3*Wf (?u d.toNat []) e=0;rw[ha,hb,hc,hd,IY,IY,IY,IY];simp[sg];omega
universe Hb
namespace Hb
open PySem L2
noncomputable def iT(n:Int)(i:Nat):Int:=if ?hG=0 then n else -n
noncomputable def Hm(ms:Ms)[?dV]:Nat->Ms
 | 0=>ms
 | i+1=>?mG
noncomputable def iB(ms:Ms)[?dV]:Ms:=Hm ms fs n ?iG
theorem lO(ms:Ms)[?j8](n k:Int):∀i,Da ?c0 k=?a7+?iY*n
 | 0=>by simp[Hm,Jr]
 | i+1=>by
   show Da (?mG) k=_;rw[jH,lO ms fs n k i];show _=?a7+(if ?d1=k then ?wE else ?iY)*n;by_cases h:k=?d1
   . rw[?D h,?vM]
     have e:?d7=(1-?cR)*n:=by
      unfold iT;have:?t9:=O9m
      rcases this with z | z
      . rw[?b5,z];simp
      . rw[?aB,z];omega
     rw[e,show ?wE=?iY+(1-?cR) by omega,Int.add_mul];omega
   . rw[?e0,?o (?wM)]
theorem Yk[?aS][?dV]:∀i,nd ?c0
 | 0=>h
 | i+1=>OB (Yk h fs n i) _ _
theorem EC[?j6][?dV]:∀i,nz ?c0
 | 0=>h
 | i+1=>nV (EC h fs n i) _ _
theorem Ut(ms:Ms)[?dV]:∀i,(?h0).length<=ms.length+i
 | 0=>?aN
 | i+1=>by
   have h1:=Ut ms fs n i;have h2:=bW ?c0 ?fF (?d7);show(Ji _ _ _).length<=_;omega
noncomputable def Ol(xs:Am)(k p n:Int):Bool:=Do xs (?i4) k&&?f (¬n=0)
noncomputable def Od[?a5](ms:Ms):Bool:=ms.all fun p=>Ol xs k p.1 p.2
noncomputable def M9[?dW]:Nat->Ms
 | 0=>[]
 | i+1=>iB ?d9 (?k4) (?gB).2
noncomputable def E5[?dW]:Ms:=M9 xs ms ?uM
theorem aI[?dU](ms:Ms):∀i,(?iU).length<=4*i
 | 0=>?aN
 | i+1=>by
   have h1:=aI h4 ms i;show(iB _ _ _).length<=_;unfold iB;have h2:=Ut ?d9 (?k4) (?gB).2 ?xT
   have h3:?xT<=4:=by
    rcases Go (l:=xs) (i:=?u3) (d:=[]) with z | z
    . exact h4 _ z
    . rw[z];exact ?a1
   omega
theorem dS{xs:Am}{p l:Int}(h:Do xs (?i4) l=true):?qD:=by
 have h':(?f (0<=p)&&?f (?gH)&&?f (Dq ?hE=l))=true:=h;rw[qc8,qc8]at h';exact⟨qd7 h'.1.1,qd7 h'.1.2⟩
noncomputable def Q1(b:Addr)(H H1:Hp):Prop:=∀c q,c≠b->H c=?bO->H1 c=?bO
section
variable[?bU]{H H1:Hp}{b:Addr}{m:?F (Key × V)}
theorem SqL.x[?j2][?nU](h:?B0 a xs):SqL K H1 a xs:=by
 rcases h with(h|⟨o,h⟩) | h
 . ext yK
 . ext yH
 . exact ?gD
theorem Ed.x[?j2][?nU](h:?e5):?wU:=by
 rcases h with(h|⟨o,h⟩) | h
 . ext yK
 . ext yH
 . exact ?gD
mutual
theorem Rep.x[?j2]{v:V}{d:L2.D}(h:?AK v d):Rep K H1 v d:=by
 cases d with
 | non=>exact h
 | bl b=>exact h
 | int i=>exact h
 | str x=>exact h
 | tup ds =>
   obtain⟨a,vs,e,q,r⟩:=h;exact⟨a,vs,e,Ed.x s hb q,?xM⟩
 | lst ds =>
   obtain⟨a,vs,e,q,r⟩:=h;exact⟨a,vs,e,SqL.x s hb q,?xM⟩
theorem Reps.x[?j2][?J]{ds:?F L2.D}(h:?bD K H vs ds):?bD K H1 vs ds:=by
 cases ds with
 | nil=>exact h
 | cons d r =>
   obtain⟨v,q,e,h1,h2⟩:=h;exact⟨v,q,e,Rep.x s hb h1,Reps.x s hb h2⟩
end
universe e9
section
variable[?v]
noncomputable def Xc:Sp:=fun vs H Q _=>bB fun ?aA ?x (k p n:Int)=>Fc (vs=[?s,?S,?i4,?cI]) ?Q (Q (.bl (Ol xs k p n)) H)
noncomputable def Vk:Sp:=fun vs H Q _=>bB fun ?c4 ?x ?I ?cM=>Dn (vs=[?s,?S,?c7]) ?Q (H b=?bJ) ?fN (∀H',?CA (Od xs k ms))
noncomputable def Fy:Sp:=fun vs H Q _=>bB fun ?c4 ?x (n:Nat) ?cM=>Hq (vs=[?s,?c7,?d ?b0]) ?Q (H b=?bJ) ?fN (n<=100) (∀H',?CA ((?hQ n).any fun(k:Nat)=>?q3))
noncomputable def Sl:Sp:=fun vs H Q _=>bB fun ?aA ?e9 ?cM (fs:?e) ?b0=>Dn (vs=[?s,v,?cI]) (H a=?bJ) (TI K H v fs) (ms.length+fs.length<=100000) (∀H',Q1 a H H'->H' a=?zK (iB ms fs n)->?m3)
noncomputable def aA:Sp:=fun vs H Q _=>V6 fun ?c4 ?x ?cM=>Mn ?i0 ?Q (H b=?bJ) ?fN ?l0 ((∃k:Nat,k<4/\?q3=true)) (xH H ?dP Q)
universe e9
universe Hb
namespace Hb
open PySem L2
noncomputable def wF[?V](ms:Ms):Int:=(?C fun p=>p.2*?eB).sum
theorem fM[?V]:?AQ []=0:=rfl
theorem J5[?V](p:?R)(ms:Ms):?AQ ?gR=p.2*?eB+?Y:=by
 unfold wF;rw[qd5,List.sum_cons]
theorem Y5(k:Int):Da [] k=0:=rfl
theorem iJ[?V](k:Int):∀{ms:Ms},?bV->?AQ (?bW)=?Y-?a7*φ k
 | [],_=>by show ?c5=0-Da [] k*φ k;rw[Y5];simp
 | ?dR,h=>by
   ext fS;have ih:=iJ φ k (ms:=ms) h.2;rw[M8,J5];by_cases e:?cT
   . rw[?e6];have hd:?qM=?bW:=by unfold Hw;rw[?u1 (?e7)]
     have hg:?a7=0:=M7 (by rw[←e];exact h.1);rw[hd,ih,hg,←e,qj6];omega
   . rw[?hA];have hd:?qM=p::?bW:=by unfold Hw;rw[?y4 (?e7)]
     rw[hd,J5,ih];omega
theorem w9[?V](as bs:Ms):?AQ (as++bs)=?AQ as+?AQ bs:=by
 unfold wF;rw[qb0,List.sum_append]
theorem MR[?V](k v:Int):∀{ms:Ms},?bV->k∈?C (·.1)->?AQ (?C fun p=>?kE)=?Y+(v-?a7)*φ k
 | [],_,h=>?p1
 | ?dR,h,hk=>by
   ext fS;rw[qd5,J5,J5,M8];by_cases e:?cT
   . rw[?e6,?e6]
     have same:(?C fun p=>?kE)=ms:=by
      conv=>rhs;rw[←?w2 ms]
      apply qo1;intro q hq;have:¬q.1=k:=fun z=>h.1 (by rw[e,←z];exact qo0 (f:=(·.1)) hq);rw[?mW];rfl
     rw[same,e,Int.sub_mul];show v*φ k+?Y=_;omega
   . rw[?hA,?hA]
     have hk2:k∈?C (·.1):=by
      rw[qd5,qb7]at hk;rcases hk with z | z
      . exact ?eH ?bM e
      . exact z
     rw[MR φ k v h.2 hk2];omega
theorem WG[?V][?aS](k v:Int):?AQ ?gX=?Y+(v-?a7)*φ k:=by
 by_cases hk:k∈?C (·.1)
 . unfold putI;rw[?D (W2.mpr hk),MR φ k v h hk]
 . rw[put_new hk,w9,M7 hk,J5,fM];simp
theorem wH[?V][?aS](k n:Int):?AQ ?f2=?Y+n*φ k:=by
 unfold Ji;split
 . rename_i e
   rw[iJ φ k h];have:?a7=-n:=O9m
   rw[this,qo3];omega
 . rw[WG φ h,show ?iT-?a7=n by omega]
theorem cZ[?V][?aS][?dV]:∀i,?AQ ?c0=?Y+n*Al (fun j=>sg j*φ (fs.getD j 0)) i
 | 0=>by show ?Y=?Y+n*0;simp
 | i+1=>by
   show ?AQ (?mG)=?Y+n*(Al _ i+sg i*φ ?fF);rw[wH φ (Yk h fs n i),cZ φ h fs n i,Int.mul_add]
   have e:?d7=n*sg i:=by
    unfold iT sg;have:?t9:=O9m
    rcases this with z | z
    . rw[?b5,z];simp
    . rw[?aB,z];omega
   rw[e,qe6];omega
theorem Pm[?dW]:∀i,nd ?d9
 | 0=>List.nodup_nil
 | i+1=>Yk (Pm xs ms i) _ _ _
theorem Yg[?dW]:∀i,nz ?d9
 | 0=>fun p hp=>by cases hp
 | i+1=>EC (Yg xs ms i) _ _ _
noncomputable def face(xs:Am)[?V](p:Int):Int:=Al (fun j=>sg j*φ (?AW ?mR j)) ?hE
theorem CY[?V][?dW]:∀i,?kX->?AQ ?d9=wF (?aI xs φ) (ms.take i)
 | 0,_=>rfl
 | i+1,h=>by
   show ?AQ (iB ?d9 _ _)=_;unfold iB;rw[cZ φ (Pm xs ms i),CY φ xs ms i ?q,qr8,?g7,w9];ext nD
   rw[e];show _+_=_+wF _ [?gK];rw[J5,fM];unfold face;omega
theorem IJ[?V][?dW]:?AQ ?dP=wF (?aI xs φ) ms:=by
 unfold E5;rw[CY φ xs ms _ ?Z,qd2]
noncomputable def ZA(e k:Int):Int:=if k=e then 1 else 0
theorem UK(e:Int):∀{ms:Ms},?bV->wF ?kW ms=Da ms e
 | [],_=>rfl
 | ?dR,h=>by
   ext fS;rw[J5,M8,UK e h.2];unfold ZA;by_cases z:p.1=e
   . rw[?b5,?b5,M7 (by rw[←z];exact h.1)];omega
   . rw[?dH,?dH];omega
theorem tQ(xs:Am)(e p:Int):?aI xs ?kW p=?e2:=by
 have:∀[?j8] (i:Nat),Al (fun j=>sg j*ZA e (fs.getD j 0)) i=?a2:=by
  intro fs i
  induction i with
  | zero=>rfl
  | succ i ih =>
    show Al _ i+sg i*ZA e ?fF=?sN
    rw[ih];unfold ZA sg;ext bT
 exact this _ _
theorem Y4{xs:Am}{ms:Ms}(e:Int):?r3=wF (fun p=>?e2) ms:=by
 have h:=UK e (Pm xs ms ?uM);change wF ?kW ?dP=?r3 at h;rw[←h];rw[IJ];unfold wF
 congr 1
 apply qo1;intro p _;rw[tQ]
theorem iI{φ:?kH}:∀{ms:Ms},(∀p∈ms,?eB=0)->?Y=0
 | [],_=>rfl
 | ?dR,h=>by
   rw[J5,h p ?hI,iI fun q hq=>h q (qd0 _ hq)];simp
theorem MD[?fU]{ms:Ms}(hin:∀p∈ms,?mU/\p.1<?cA):?sW=[]:=by
 have z:∀e,Da (?sW) e=0:=by
  intro e;rw[Y4,IJ];refine iI ?gY;obtain⟨h0,h1⟩:=hin p hp
  have hq:xs[?iC]?=?c (?iV):=by
   ext cN
  unfold face;exact Ad3 hs hq e
 have hn:=Pm xs (E5 xs ms) (E5 xs ms).length;have hz:=Yg xs (E5 xs ms) (E5 xs ms).length;change nd (E5 xs (E5 xs ms)) at hn;change nz (E5 xs (E5 xs ms)) at hz;cases e:E5 xs (E5 xs ms) with
 | nil=>rfl
 | cons p r =>
   rw[e]at hn hz;have h1:=EJ hn (qe3 (a:=p) (l:=r));have h2:=z p.1;rw[e]at h2;unfold Da at h2;rw[h1]at h2;exact ?eH h2 (hz p ?hI)
noncomputable def Ai9(n:Nat)(k:Int):Bool:=?f (?b0=k+1) || (?f (k=0)&&?x2)
noncomputable def spN[?a5]:Nat->?e
 | 0=>[]
 | i+1=>if Ai9 (?u i []).length k=true then ?uE++[?iK] else ?uE
noncomputable def spots[?a5]:?e:=spN xs k ?aV
theorem BX{xs:Am}[?fZ](h:?b4)(hp:?iW):Cg (xs++[p]):=by
 intro k q hk;by_cases hlt:k<xs.length
 . rw[qb8 hlt]at hk;rw[qk2 ?q];exact h k q hk
 . have hk':k<(xs++[p]).length:=(?b6 hk).1;have e:k=xs.length:=by simp at hk';omega
   subst e;simp at hk;subst hk;rw[qk2 ?Z,qd2];exact hp
structure Part(xs:Am)(need:Nat)(p:?e):Prop where
 ok:∀f∈p,?pK
 agr:?lV->∀i j:Nat,i<j->?m5->(?u (?iZ).toNat []).getD i 0=?pD (j-1) 0
theorem Part.nil{xs:Am}{need:Nat}:Part xs need []:=⟨fun f h=>(?eL),fun _ i j _ h=>(?p1)⟩
theorem Part.snoc{xs:Am}{need:Nat}[?fZ]{f:Int}(h:?oK)(hf:?pK)
 (ha:?lV->∀i:Nat,i<p.length->?AW ?dJ i=?pD (?oO) 0):Part xs need (p++[f]):=by
 refine⟨fun g hg=>?_,fun hn i j hij hj=>?_⟩
 . rcases qj5.mp hg with q | q
   . exact h.ok g q
   . have:g=f:=by simpa using q
     subst this;exact hf
 . rw[qb1,qg8]at hj
   have gi:?m0 i 0=?i7:=by
    rw[qa4,qa4,?eR]
   rw[gi];by_cases e:?m5
   . have gj:?m0 j 0=?iZ:=by
      rw[qa4,qa4,qb8 e]
     rw[gj];exact h.agr hn i j hij e
   . have e2:j=p.length:=O9m
     subst e2
     have gj:?m0 ?wB 0=f:=by
      rw[qa4,?bF,qh5];rfl
     rw[gj];exact ha hn i hij
theorem Part.fits{xs:Am}{size need:Nat}[?fZ](h:?oK)(hp:p.length=size)(hs:(size=0/\need=0)\/(size=2/\need=0)\/(size=3/\need=2)\/(size=4/\need=3)):?iW:=by
 have look:∀f∈p,?n7=?c (?dJ):=fun f hf=>by
  obtain⟨h0,h1,_⟩:=?n2;ext cN
 refine⟨O9m,fun f hf=>(?n2).1,fun f hf=>⟨_,look f hf,?_⟩,fun h3 i j f g q r hij hj hi hq hr=>?_⟩
 . have:=(?n2).2.2;unfold lev;rw[this,hp]
   have:p.length≠0:=fun z=>by
    have:=qq0 z;subst this;cases hf
   omega
 . have hjl:?m5:=(?b6 hj).1;have fj:?iZ=f:=by rw[qa4,hj];rfl
   have gi:?i7=g:=by rw[qa4,hi];rfl
   have hn:?lV:=O9m
   have a:=h.agr hn i j hij hjl;rw[fj,gi]at a;rw[look f ?uR]at hq;rw[look g ?s7]at hr;cases hq;cases hr;have l1:=(h.ok f ?uR).2.2;have l2:=(h.ok g ?s7).2.2;generalize ?dJ=A at a l1 ⊢;generalize ?u g.toNat []=B at a l2 ⊢;have i1:i<A.length:=O9m
   have i2:j-1<B.length:=O9m
   rw[qa4,qa4,qa0 i1,qa0 i2]at a;rw[qa0 i1,qa0 i2];exact congrArg ?c a
section
variable[?v]
noncomputable def Oy:Sp:=fun vs H Q _=>Og fun ?aA ?x (c:Int)=>Dn (vs=[?s,?d c]) ?Q ?dN ?d5 (∀(R:Addr) (v:V) (m:Int) (p:?e) (H':Hp),?B->Ed K H' R [v,?d m]->TI K H' v p->?iW->?xP)
universe e9
theorem EH{ms:Ms}{k n:Int}[?fW](h:q∈?kJ):q∈ms\/q=(k,?iT):=by
 unfold Ji at h;split at h
 . exact ?g ?tS
 . exact jB h
theorem Yq{ms:Ms}{fs:?e}{n:Int}:∀{i:Nat},i<=fs.length->∀q∈?h0,q.1∈?C (·.1)\/q.1∈fs
 | 0,_,q,h=>?g (qo0 (f:=(·.1)) h)
 | i+1,hi,q,h=>by
   rcases EH h with z | z
   . exact Yq O9m q z
   . subst z;refine ?t ?_;show ?d1∈fs;rw[qa4,?g7];exact ?hN
theorem AJ{xs:Am}{ms:Ms}:∀{i:Nat},?kX->∀q∈?iU,∃p∈ms,q.1∈?iV
 | 0,_,q,h=>?eL
 | i+1,hi,q,h=>by
   ext nD
   rcases Yq ?Z q h with z | z
   . obtain⟨r,hr,er⟩:=?X z;obtain⟨p,hp,hq⟩:=AJ O9m r hr;exact⟨p,hp,by rw[←er];exact hq⟩
   . exact⟨?gK,?hN,by rw[←e];exact z⟩
theorem fD{ms:Ms}{fs:?e}{n:Int}{M:Nat}(hm:∀p∈ms,?pS<=M):∀(i:Nat),∀q∈?h0,?rW<=M+?lO
 | 0,q,h=>by have:=hm q h;simp;exact this
 | i+1,q,h=>by
   have ih:=fD hm i (fs:=fs) (n:=n);have e:?b2*n.natAbs=?lO+n.natAbs:=Nat.succ_mul ..;rcases EH h with z | z
   . have:=ih q z;omega
   . subst z;have hs:(?d7).natAbs=n.natAbs:=by unfold iT;ext bT
     have hg:(?pI).natAbs<=M+?lO:=by
      unfold Da;cases e2:C3 (Hm ms fs n i) (fs.getD i 0) with
      | none=>simp
      | some v=>exact ih _ (Ur e2)
     show(?pI+?d7).natAbs<=_;omega
theorem fC[?dU]{ms:Ms}{B:Nat}(hb:∀p∈ms,?pS<=B):∀{i:Nat},?kX->∀q∈?iU,?rW<=i*(4*B)
 | 0,_,q,h=>?eL
 | i+1,hi,q,h=>by
   have ih:=fC h4 hb (i:=i) O9m;ext nD
   have:=fD ih _ q h;rw[e]at this;have hB:=hb ?gK (?hN)
   have hl:?rT<=4:=by
    rcases Go (l:=xs) (i:=?vF) (d:=[]) with z | z
    . exact h4 _ z
    . rw[z];exact ?a1
   have h2:?rT*ms[i].2.natAbs<=4*B:=qf0 hl hB;have e3:?b2*(4*B)=i*(4*B)+4*B:=Nat.succ_mul ..;omega
theorem HQ[?fU]{k:Int}{ms:Ms}(hm:∀p∈ms,?mU/\p.1<?cA/\Dq (?iV).length=k):Od xs (k-1) ?dP=true:=by
 refine qe9.mpr ?mP;have hz:q.2≠0:=Yg xs ms _ q hq;obtain⟨p,hp,hf⟩:=AJ ?Z q hq;obtain⟨a,b,c⟩:=hm p hp
 have hx:xs[?iC]?=?c (?iV):=by
  ext cN
 have F:=hs _ _ hx;obtain⟨r,hr,hl⟩:=F.bel q.1 hf;have q0:=F.low q.1 hf
 have hr2:xs[?jN]?=?c r:=by
  rw[qi7]at hr;split at hr
  . exact hr
  . cases hr
 have B75:?jN<xs.length:=(?b6 hr2).1;have er:?o6=r:=by rw[qa4,hr2];rfl
 have hlr:Dq r.length=k-1:=by
  unfold lev at hl;unfold Dq at c ⊢;have cr:=(hs _ _ hr2).cnt;have cp:=F.cnt;split at c<;>split<;>omega
 unfold Ol;rw[qc8];refine⟨?_,by simpa using hz⟩;show(?f (0<=q.1)&&?f (?kP)&&?f (Dq (?o6).length=k-1))=true;rw[er,qg4 q0,qg4 (show ?kP by omega),qg4 hlr];rfl
universe Hb
namespace L2
open PySem PySem.Spec PyProof.Rows
universe L2
namespace Hb
open PySem L2
noncomputable def Rr[?a5](n:Nat):?e:=((?hQ n).filter ?sA).map fun(j:Nat)=>?fB
noncomputable def Ht[?a5]:?e:=Rr xs k ?aV
theorem DR[?b7]{n:Nat}(h:?AE n):?rE=?mI++[?b0]:=by
 unfold Rr;rw[ql3,qg3,qb0,?AN ?y4];rfl
theorem IW[?b7]{n:Nat}(h:¬?AE n):?rE=?mI:=by
 unfold Rr;rw[ql3,qg3,qb0,?AN ?u1];simp
theorem Fn[?a5](n:Nat):?AV ?mI n:=by
 unfold Rr;rw[qa2];have:=qg2 (?sA) (?hQ n);simpa using this
section
variable[?v]
noncomputable def Ea:Sp:=fun vs H Q _=>Og fun ?aA ?iK ?x=>B6 (vs=[?s,?aC]) ?Q ?d5 (∀[?fV],?BS ((Ht xs i).map ?w))
universe e9
theorem belowD_of{i b:Int}(h0:0<=i)(h1:i<b):belowD (?aC) b=true:=by
 show(?f (0<=i)&&?f (i<b))=true;rw[qg4 h0,qg4 h1];rfl
theorem SS(g:?kH)(sp:?e):?lK g=Hu ?mH (fun i=>g (sp.getD i 0)):=by
 unfold Hu;apply List.ext_getElem
 . simp
 . intro i h1 h2;simp at h1;simp[h1]
theorem Zq(xs:Am)(p e:Int):Da (?hU) e=?e2:=by
 rw[Y4];show 1*?e2+0=_;omega
theorem Iv{xs:Am}{k p:Int}(h:p∈?a6):0<=p/\?gH/\Dq ?hE=k:=by
 unfold Ht Rr at h;obtain⟨j,hj,rfl⟩:=?X h;have h1:=?gL hj;have h2:=?iS h1.1;refine⟨O9m,O9m,?_⟩;rw[qe4];simpa using h1.2
theorem KW[?dU](p e:Int):(?e2).natAbs<?jH:=by
 rw[←Zq xs p e];unfold Da;cases h:C3 (E5 xs [(p,1)]) e with
 | none=>decide
 | some v =>
   have hm:=Ur h;have:=fC (B:=1) h4 (ms:=?gO) (fun q hq=>by rw[qr0]at hq;subst hq;exact qa1 1) ?Z _ hm;show v.natAbs<?jH;have h2:v.natAbs<=1*(4*1):=this;omega
theorem Mx[?a5]:(?a6).Nodup:=by
 unfold Ht Rr;exact List.Pairwise.map _ (fun a b h=>O9m) (List.Pairwise.filter _ List.nodup_range)
theorem MP[?nH]:(sp.zip ns).map (·.1)=sp:=by
 rw[show(fun x:?R=>x.1)=Prod.fst from rfl,List.map_fst_zip ?q]
theorem mP[?nH](h:sp.Nodup):nd (sp.zip ns):=by
 unfold nd;rw[MP hl];exact h
theorem wC[?nH]{i:Nat}(hi:i<sp.length):(sp.zip ns)[i]?=?c (sp.getD i 0,ns.getD i 0):=by
 rw[qa0 (by simp;omega),List.getElem_zip,qa4,qa4,qa0 hi,?g7];rfl
theorem tV{sp ns:?e}[?fW](h:q∈R6 (sp.zip ns)):q.1∈sp/\q.2∈ns:=by
 have h1:=?tS;exact⟨(qq3 h1).1,(qq3 h1).2⟩
section
variable[?v]
noncomputable def Gd[?g0]:Sp:=fun vs H Q _=>Jj fun(i b:Int)=>B6 (vs=[?aC,?d b]) (0<=i) (i<b) (Q ?bH H)
noncomputable def Qr:Sp:=fun vs H Q _=>V6 fun ?c4 (sp:?e) ?cM=>Dn ?i0 (?B0 a (?lK ?w)) (Rd H b (.dK (?bI))) (sp.length<=1000) (∀[?fV],?BS ((?lK (Da ms)).map ?w))
noncomputable def Jk:Sp:=fun vs H Q _=>Og fun ?aA ?x ?I=>Mn (vs=[?s,?S]) ?Q ?d5 ?l0 ?cV (k<5) (sM H (?mF).length ?e3 (fun i j=>?r6) Q)
universe e9
theorem sumN_one{sp:?e}(h:sp.Nodup){k:Int}(hk:k∈sp)(c:Int):Al (fun m=>?o1) ?mH=c:=by
 obtain⟨i,hi,e⟩:=qk6 hk
 have key:∀m,?rD->(?o1)=(if m=i then 1 else 0)*(fun _:Nat=>c) m:=by
  intro m hm;rw[qa4,qa0 hm,Option.getD_some];by_cases q:m=i
  . subst q;rw[?e6,?O,qd1]
  . rw[?o q,if_neg,qj6];intro z;exact q ((List.getElem_inj h).mp (z.trans e.symm))
 rw[Ao key,Dk,?mL]
theorem II{sp:?e}(hs:sp.Nodup)[?V]:∀{ms:Ms},?bV->(∀p∈ms,p.1∈sp)->?Y=Al (fun m=>?AP ms) ?mH
 | [],_,_=>by
   rw[fM,Ao (g:=?qJ) (fun m _=>by rw[Y5,qf3]),P5]
 | ?dR,h,hk=>by
   ext fS;have ih:=II hs φ (ms:=ms) h.2 fun q hq=>hk q (qd0 _ hq);have h1:=?c9 hs (hk p ?hI) (?eB*p.2)
   have e:∀m,?rD->?AP ?gR=(if ?b3=p.1 then ?eB*p.2 else 0)+?AP ms:=by
    intro m _;rw[M8];by_cases q:?b3=p.1
    . rw[?D q.symm,?D q,q,M7 h.1,qf3,qw6]
    . rw[?o (?AC q),?o q,qp7]
   rw[J5,ih,Ao e,De,h1,qf7 p.2]
noncomputable def Ni[?a5](i j:Nat):Int:=?r6
theorem sS{xs:Am}{k p:Int}(h0:0<=p)(h1:?gH)(h:Dq ?hE=k):p∈?a6:=by
 unfold Ht Rr;refine qf2.mpr ⟨?kR,ql4.mpr ⟨?lJ,qg4 h⟩,O9m⟩
theorem wZ[?b7]{j:Nat}(hj:j<?e3):?AW ?a6 j∈?a6:=by
 rw[qa4,qa0 hj];exact qd3 hj
theorem GI[?fU]{k:Int}{i j:Nat}(hj:j<(?u0).length):Al (fun m=>Ni xs k i m*Ni xs ?dS m j) ?e3=0:=by
 obtain⟨q0,q1,q2⟩:=Iv (wZ hj);unfold Ni;rw[?uJ];generalize ?AW ?u0 j=p at q0 q1 q2;generalize ?AW ?mF i=e;have hcb:=HQ hs (k:=k+1) (ms:=?gO) (?A6 ⟨q0,q1,q2⟩);rw[?uJ]at hcb
 have hkey:∀r∈?hU,r.1∈?a6:=fun r hr=>by
  have h1:=qe9.mp hcb r hr;unfold Ol at h1;rw[qc8]at h1;have h2:(?f (0<=r.1)&&?f (r.1<?cA)&&?f (Dq (?u r.1.toNat []).length=k))=true:=h1.1;rw[qc8,qc8]at h2;exact sS (qd7 h2.1.1) (qd7 h2.1.2) (qd7 h2.2)
 have hbb:=MD hs (ms:=?gO) (?A6 ⟨q0,q1⟩);have hg:=Y4 (xs:=xs) (ms:=?hU) e;rw[hbb,Y5,II (Mx xs k) _ (show nd (?hU) from Pm ..) hkey]at hg;refine Eq.trans (Ao fun m _=>?_) hg.symm;rw[Zq]
theorem iW(xs:Am):?uP=[]:=by
 cases h:Ht xs (0-1) with
 | nil=>rfl
 | cons p l =>
   exfalso
   have h1:=(Iv (xs:=xs) (k:=0-1) (p:=p) (by rw[h];exact ?jX)).2.2;unfold Dq at h1;split at h1<;>omega
theorem FP[?dU](k:Int)(i j:Nat):?xZ<?jH:=KW h4 _ _
section
variable[?v]
universe e9
noncomputable abbrev Dh[?a5]:Nat:=?e3
theorem SG{fs:?e}(h:fs.length<=4)(e:Int):(Wf fs e).natAbs<=2:=by
 have key:∀i,i<=4->(i=0->?a2=0)/\(i=1->0<=?a2/\?a2<=1)/\(i=2->-1<=?a2/\?a2<=1)/\(i=3->-1<=?a2/\?a2<=2)/\(i=4->-2<=?a2/\?a2<=2):=by
  intro i
  induction i with
  | zero=>intro _;exact⟨fun _=>rfl,?eY,?eY,?eY,?eY⟩
  | succ i ih =>
    intro hi;obtain⟨h0,h1,h2,h3,h4⟩:=?k1;have e1:Jr fs e ?b2=?sN:=rfl
    rw[e1];refine⟨?eY,?d8,?d8,?d8,?d8⟩
    . have:=h0 O9m;ext bT
    . have:=h1 O9m;ext bT
    . have:=h2 O9m;ext bT
    . have:=h3 O9m;ext bT
 have:=key ?iG h;show(Jr fs e ?iG).natAbs<=2;rcases (show ?B8 0\/?B8 1\/?B8 2\/?B8 3\/?B8 4 by omega) with z | z | z | z | z
 . have:=this.1 z;omega
 . have:=this.2.1 z;omega
 . have:=this.2.2.1 z;omega
 . have:=this.2.2.2.1 z;omega
 . have:=this.2.2.2.2 z;omega
theorem iL[?dU](k:Int)(i j:Nat):?xZ<=2:=by
 refine SG ?_ _;rw[qa4];cases e:xs[((Ht xs k).getD j 0).toNat]? with
 | none=>exact ?a1
 | some x=>exact h4 x (qb6 e)
theorem dR{xs:Am}{k l:Int}(h:k≠l):?f0+Dh xs l<=xs.length:=by
 have nd:(?rP).Nodup:=by
  rw[qv9];refine⟨?mK,?mK,fun a ha b hb e=>h ?_⟩;have h1:=(Iv ha).2.2;have h2:=(Iv hb).2.2;rw[←h1,←h2,e]
 have sb:(?rP) ⊆ iK ?aV:=fun p hp=>by
  have:?qD:=by
   rcases qj5.mp hp with h | h
   . exact ?sV
   . exact ?sV
  unfold iK;rw[qf2];exact⟨?kR,?lJ,O9m⟩
 have:=nd.length_le_of_subset sb;rw[qb1,P4]at this;exact this
noncomputable abbrev Bz:=Int × Ms × Ms × Ms
noncomputable def tX[?a5](v:?z):Ms:=R6 (?vE (?oF))
structure v7[?nC]:Prop where
 lev:Lat.Lev ?bN ?U z ?d2 L G
 fin:uG z (?eZ) (2 ^ kB z) ?a8 (kS z (?eZ)) (Lat.gT ?U G (Ni xs ?dS)) k0 f l r
 ch:?p4 k0 k0 f
 kz:k0<=z
 kw:k0<=?eZ
 bL:?tR
 bG:?y3
 zm:z<=?f0
noncomputable def HX[?nC](i:Nat):Bz :=
 (?jW,tX xs k (?n6 z l.2 L i),tX xs k (?n6 z l.1 G i),?k3)
noncomputable def Gh[?nC]:?cE:=(?hQ z).map (?zB HX k)
noncomputable def bA[?a5][?aT]:Prop:=∃z k0 L G f l r,?zB v7 k/\ps=?l8
theorem OI[?fU](k:Int):∀c,c<?eZ->∀x,x<?vG->Lat.mulV ?U ?d2 (fun a=>Ni xs ?dS a c) x=0:=fun c hc x _=>GI hs hc
structure Bd2(xs:Am)(n:Nat)(zs ks:?H)(Ls Gs:Nat->Lat.Mat)(fs:?v1)(lp rp:Nat->?cW)[?bQ]:Prop where
 len:ls.length=n
 z0:zs 0=?eN/\Ls 0=Lat.one/\Gs 0=Lat.one
 nx:∀j,j<n->zs ?f8=Dh xs (?fB+1)-ks j/\Ls ?f8=(fun i=>(rp j).1 ?rG)/\Gs ?f8=fun i=>(rp j).2 ?rG
 lv:∀j,j<n->?zP v7/\ls[j]?=?c (?zP Gh)
noncomputable def Lu(xs:Am)(n:Nat)[?bQ](z:Nat)(L G:Lat.Mat):Prop:=∃zs ks Ls Gs fs lp rp,Bd2 xs n zs ks Ls Gs fs lp rp ls/\zs n=z/\Ls n=L/\Gs n=G
theorem Lu.first(xs:Am):Lu xs 0 [] (?eN) ?cZ ?cZ :=
 ⟨fun _=>?eN,?qJ,?rQ,?rQ,fun _ _=>0,?s6,?s6,⟨rfl,?v4,?vT,?vT⟩,rfl,rfl,rfl⟩
noncomputable def BE[?nT](n:Nat)(a:α):Nat->α:=fun j=>if j=n then a else g j
theorem Gc[?nT](n:Nat)(a:α):BE g n a n=a:=?O
theorem Ee[?nT]{n j:Nat}(a:α)(h:j≠n):BE g n a j=g j:=?e0
theorem Lu.snoc{xs:Am}{n:Nat}[?bR][?fR](h:?w3)(b:?zB v7 ?b0) :
 Lu xs ?K (ls++[?zB Gh ?b0]) (Dh xs ?aH-k0) (?x3) ?oY:=by
 obtain⟨zs,ks,Ls,Gs,fs,lp,rp,t,rfl,rfl,rfl⟩:=h;refine⟨BE zs ?K (Dh xs ?aH-k0),BE ks n k0,BE Ls ?K ?x3,BE Gs ?K ?oY,BE fs n f,BE lp n l,BE rp n r,⟨?_,?_,?mX,?mX⟩,Gc ..,Gc ..,Gc ..⟩
 . rw[qb1,t.len];rfl
 . rw[?hX,?hF,?iA];exact t.z0
 . by_cases e:j=n
   . subst e;rw[Gc,Gc,Gc,Gc,Gc];exact ?v4
   . rw[?hX,?qU,?hF,?iA,?qN];exact t.nx j O9m
 . by_cases e:j=n
   . subst e;rw[?hX,?hF,?iA,Gc,Gc,Gc,Gc];exact⟨b,by rw[qc4 (by rw[t.len];exact ?aN),t.len,qh5];rfl⟩
   . rw[?hX,?hF,?iA,?qU,Ee fs _ e,Ee lp _ e,?qN];obtain⟨h1,h2⟩:=t.lv j O9m;exact⟨h1,by rw[qb8 (by rw[t.len];omega)];exact h2⟩
theorem Lu.lev{xs:Am}{n:Nat}[?bR]{z:Nat}{L G:Lat.Mat}(h:?w3):∀(j:Nat) ps,ls[j]?=?iO->bA xs ?fB ps:=fun j ps e=>by
 obtain⟨zs,ks,Ls,Gs,fs,lp,rp,t,_⟩:=h;have hj:=?t7;rw[t.len]at hj;obtain⟨h1,h2⟩:=t.lv j hj;rw[h2]at e;cases e;exact⟨_,_,_,_,_,_,_,h1,rfl⟩
universe Hb
namespace L2
open PySem PySem.Spec PyProof.Rows
mutual
def qT:D->PyData
 | ?bH=>?W
 | .bl b=>.bool b
 | ?aC=>?aC
 | ?iH=>?iH
 | ?jR=>.tuple ?fE
 | ?kA=>.list ?fE
 def toPDs:?F D->?F PyData
 | []=>[]
 | d::ds=>qT d::?r1
 end
section
variable[?yX]
mutual
theorem NB(I:?pF):∀(d:D) {v:V}{u:Value},Rep X.K H v d->RelV v u->∃as,Reads ?f9 u (qT d) as
 | ?bH,v,u,h,r=>by
   cases (?BF v ?bH);obtain rfl:u=?W:=r;exact⟨_,?W⟩
 | .bl b,v,u,h,r=>by
   cases (show v=.bl b from h);obtain rfl:u=.bool b:=r;exact⟨_,.bool b⟩
 | ?aC,v,u,h,r=>by
   cases (?BF v ?aC);obtain⟨t,rfl⟩:=r;exact⟨_,?d i t⟩
 | ?iH,v,u,h,r=>by
   cases (?BF v ?iH);obtain⟨t,rfl⟩:=r;exact⟨_,.str x t⟩
 | ?jR,v,u,h,r=>by
   ext yM;ext nI;obtain⟨o,ho,hc,n,hd⟩:=(?AD a)
   obtain⟨as,ra⟩:=?o9;exact⟨as,.tuple ho hc hd (by simpa using ra)⟩
 | ?kA,v,u,h,r=>by
   ext yM;obtain⟨its,rv,p,hz⟩:=I.list hq;obtain⟨o,ho,hc,n,hd⟩:=p.isList;obtain⟨as,ra⟩:=?o9;exact⟨a::as,.list ho hc hd (by simpa using ra)⟩
theorem readsAll_of(I:?pF):∀(ds:?F D) [?J]{us:?j0},?bD X.K H vs ds->Vals vs us->∃as,ReadsAll ?f9 us ?fE as
 | [],vs,us,h,r=>by
   cases (?BF vs []);cases r;exact⟨_,.nil⟩
 | d::ds,vs,us,h,r=>by
   obtain⟨v,q,rfl,hv,hq⟩:=h;cases r with
   | cons r1 r2 =>
     obtain⟨as,ra⟩:=NB I d hv r1;obtain⟨bs,rb⟩:=?tL I ds hq r2;exact⟨_,.cons ra rb⟩
end
universe e9
mutual
theorem cB:∀d:D,?sD=false
 | ?bH=>rfl
 | .bl _=>rfl
 | ?d _=>rfl
 | .str _=>rfl
 | ?jR=>?kQ
 | ?kA=>?kQ
 theorem hasDict_toPDs:∀ds:?F D,PyData.hasDictAll ?fE=false
 | []=>rfl
 | d::ds=>by
   show(?sD || PyData.hasDictAll ?fE)=false;rw[cB d,?kQ];rfl
end
universe L2
namespace L2
open PySem PySem.Spec PyProof.Rows
section
variable{X:Cx}[?bU]
universe e9
section
variable[?yX]
universe e9
structure Fin(B k:Nat)(p:PyData):Prop where
 sh:p.showable=true
 le:p.shown.length<=B
 dp:p.depth<=k
section
variable[?nN]{E:?gU}
universe e9
section
variable[?nN]{R:Result->?kD}
universe e9
universe L2
namespace Hb
open PySem L2
theorem Rows.drop{H H1 H2:Hp}{D C:Addr}{as:?k7}{w k:Nat}[?nV](R:Rows H H1 D as w f)(hC:H1 C=none)(h2:H2=upd H1 C (?n ((?q9).map V.ref))):Rows H H2 C (?q9) w (?wQ):=by
 subst h2;refine⟨R.same.trans (?cC hC),R.same.free hC,Ab,fun j a e=>?_⟩;rw[qr1]at e;obtain⟨h1,h3,h4⟩:=R.row ?aW a e;have ne:a≠C:=fun z=>by rw[z,hC]at h4;cases h4
 exact⟨h1,ne,by rw[Ak ne];exact h4⟩
section
variable[?v]
universe e9
noncomputable def Ho(H:Hp)(v:V)(p:Bz):Prop:=∃t a b c,v=?eV/\H t=?c (?N [?d p.1,?s,?c7,?cJ])/\H a=?c (.dK (cK p.2.1))/\H b=?zK ?k2/\H c=?zK ?h4/\b≠c
theorem Ho.same[?cQ]{v:V}{p:Bz}(h:?fA)[?dY]:Ho H' v p:=by
 obtain⟨t,a,b,c,e,h1,h2,h3,h4,ne⟩:=h;exact⟨t,a,b,c,e,?lH,s _ _ h2,s _ _ h3,s _ _ h4,ne⟩
noncomputable def B4(H:Hp):?AB ?r ?cE
 | [],[]=>True
 | ?eS,?eE=>?fA/\?dK
 | _,_=>False
theorem B4.same[?cQ][?dY]:?wK
 | [],[],h=>h
 | ?eS,?eE,h=>⟨h.1.same s,B4.same s h.2⟩
 | [],?a3,h=>h.elim
 | ?a3,[],h=>h.elim
theorem B4.len{H:Hp}:∀[?J][?aU],?dK->vs.length=ps.length
 | [],[],_=>rfl
 | ?eS,?eE,h=>by rw[qc5,qc5,B4.len h.2]
 | [],?a3,h=>h.elim
 | ?a3,[],h=>h.elim
theorem B4.snoc{H:Hp}:∀[?J][?aU]{v:V}{p:Bz},?dK->?fA->B4 H (vs++[v]) ?t0
 | [],[],v,p,_,h=>⟨h,trivial⟩
 | u::vs,q::ps,v,p,h,h2=>⟨h.1,B4.snoc h.2 h2⟩
 | [],?a3,_,_,h,_=>h.elim
 | ?a3,[],_,_,h,_=>h.elim
theorem B4.get{H:Hp}:∀[?J][?aU]{i:Nat}{v:V},?dK->?eI->∃p,ps[i]?=?h1/\?fA
 | [],[],i,v,_,e=>by simp at e
 | u::vs,q::ps,0,v,h,e=>⟨q,rfl,by have:u=v:=?e7
                                  subst this;exact h.1⟩
 | u::vs,q::ps,i+1,v,h,e=>by
   have e':?eI:=?e7
   obtain⟨p,h1,h2⟩:=B4.get h.2 e';exact⟨p,?fP,h2⟩
 | [],?a3,_,_,h,_=>h.elim
 | ?a3,[],_,_,h,_=>h.elim
theorem Ho.put{H:Hp}[?b8]{vs us:?r}{v:V}{p:Bz}(h:?fA)(hD:?C4 vs):Ho (upd H D ?tG) v p:=by
 obtain⟨t,a,b,c,e,h1,h2,h3,h4,nbc⟩:=h
 have ne:∀{x:Addr}{o:HO},H x=?aQ->(∀ws,o≠?n ws)->x≠D:=fun {x o} e h z=>by
  rw[z,hD]at e;cases e;exact h _ rfl
 exact⟨t,a,b,c,e,by rw[?BA h1];exact h1,by rw[?BA h2];exact h2,by rw[?BA h3];exact h3,by rw[?BA h4];exact h4,nbc⟩
theorem B4.put{H:Hp}[?b8]{us0 QH:?r}(hD:?C4 us0):?BC (upd H D (?n QH))
 | [],[],h=>h
 | ?eS,?eE,h=>⟨h.1.put hD,?kF hD h.2⟩
 | [],?a3,h=>h.elim
 | ?a3,[],h=>h.elim
theorem gI{k z:Nat}(h:k<=z)[?fX]:VI k f++?fK (z-k) (?w 0)=VI z (?o7 f k):=by
 refine qp4 fun i=>?_;by_cases hi:i<k
 . rw[qb8 (by rw[Bu];exact hi),Cq hi,Cq ?q];unfold Lat.numAt;rw[?mL]
 . rw[qc4 (by rw[Bu];omega),Bu];by_cases hz:i<z
   . rw[Cq hz,qs7,?f3];unfold Lat.numAt;rw[?o hi]
   . rw[qg9 (by rw[qk9];omega),qg9 (by rw[Bu];omega)]
theorem oH(n:Nat)[?fX]:(Hu n f).map ?w=VI n f:=rfl
theorem EZ{a b:Int}(ha:a.natAbs<?mE)(hb:b.natAbs<?mE):?eX a b:=S8 ha hb (by unfold bookF;decide)
section
variable[?v]
noncomputable def z8:Sp:=fun vs H Q _=>bB fun ?c4 ?x ?I ?m2=>Hq (vs=[?s,?S,?c7]) ?Q ?d5 (?B0 b ?d0) (ns.length=?e3) (∀[?fV],?aD->?B->?aP=?zK (R6 (?vE ns))->?aK)
noncomputable def Vh:Sp:=fun vs H Q _=>Ar2 fun(a tp nm r1 D1 D2 b2:Addr) (vl vg:V) ?x ?I (z k0 w:Nat) (L G:Lat.Mat) (f:?z) (l r:?cW)=>VZ (vs=[?s,?S,?j tp,vl,vg]) ?Q ?bK (w=?eZ) (?AK vl (dT z ?U L)) (?AK vg (dT z ?U G)) (Q3 K H tp nm r1 D1 D2 b2 z w k0 f l r) (z<=40) (k0<=z) (k0<=w) ((∀i,i<k0->f i≠0)) (?bY z z ?a8 l.1) (?bY z z ?a8 l.2) (?tR) (?y3) (∀(D:Addr) [?g1] (H':Hp),?aD->?B->?aP=?aY->B4 H' us (?l8)->?aK)
noncomputable def Fx(D:Addr)(H:Hp)(vs:?r)[?bQ]:Prop:=?sH/\∀(i:Nat) v ps,?eI->?x8->∃a us,v=?s/\a≠D/\?lD
noncomputable def Oh(H:Hp)(vs:?r)[?bQ]:Prop:=?sH/\∀(i:Nat) v ps,?eI->?x8->∃a us,v=?s/\?lD
noncomputable def Vl:Sp:=fun vs H Q _=>Jj fun ?aA ?x=>Dn (vs=[?s]) ?Q ?dN ?bK (∀(D:Addr) [?g1] [?bQ] (H':Hp),?aD->?B->?aP=?aY->?vI->(?mD)->Oh H' us ls->?aK)
universe e9
theorem one_bits(n m:Nat):?bY n m ?a8 ?cZ:=fun i j _ _=>by
 have h1:1<?mE:=Nat.one_lt_two_pow (by unfold bookF;decide);unfold Lat.one;split
 . exact h1
 . exact qt8 (?aL:0<1) h1
theorem JK[?bS]{v:V}{n:Nat}(h:?AK v (dT n n fun i j=>if j=i then 1 else 0)):?AK v (dT n n ?cZ):=by
 have e:(fun i j:Nat=>if j=i then(1:Int) else 0)=Lat.one:=by
  funext i j
  unfold Lat.one;by_cases h:i=j
  . rw[?D h,?vM]
  . rw[?e0,?o ?wM]
 rwa [e]at h
theorem TU[?bS]{C:Addr}{us:?r}{h w k:Nat}[?nV](hr:∀i u,us[i]?=?c u->i<h/\∃b,u=?c7/\?B0 b (?wO))(hl:us.length=h)(hC:?B0 C (us.drop k)):?AK ?m7 (dT (h-k) w ?wQ):=by
 refine EV hC (by rw[qg6,hl]) ?xF;have e:us[k+i]?=?c (us[k+i]' ?dZ):=?dC;obtain⟨_,b,eb,hb⟩:=hr ?P _ e;exact⟨b,by rw[qr1,e,eb],hb⟩
noncomputable def zI[?g1]:Prop:=∀u∈us,∃a,u=?s
theorem Wr[?bS]{D b:Addr}{xs:?r}{o:HO}(h:?B0 b xs)(ne:?gT):SqL K ?iN b xs:=by
 rcases h with(h|⟨q,h⟩) | h
 . exact ?g (?g (?m6))
 . ext yS
 . exact ?gD
theorem QW[?bS]{D b:Addr}{xs us:?r}{o:HO}(h:Ed K H b xs)[?nS]:Ed K ?iN b xs:=by
 rcases h with(h|⟨q,h⟩) | h
 . ext yU
   exact ?g (?g (?m6))
 . ext yU
   ext yS
 . exact ?gD
theorem CM[?bS]{D t:Addr}{us:?r}{h w:Nat}[?nV]{o:HO}(hr:?AK (?eV) (dT h w f))(ne:t≠D)(hw:0<h->0<w)[?nS](vH:zI us):Rep K ?iN (?eV) (dT h w f):=by
 obtain⟨_,tu,ez,hq,hl,N6⟩:=Hj hr;cases ez;refine EV (Wr hq ne) hl ?xF;have e:tu[i]?=?c (tu[i]' ?dZ):=?dC;obtain⟨_,b,eb,hb⟩:=N6 i _ e;refine⟨b,by rw[e,eb],?_⟩;rcases hb with(hb|⟨q,hb⟩) | hb
 . refine Wr (?g (?g hb)) ?d8;rw[z,hD]at hb;have e1:us=?wO:=by injection hb with e;injection e
   have hw':=hw O9m;have e2:us[0]?=?c (?d (f i 0)):=by rw[e1];exact Cq hw'
   obtain⟨c,hc⟩:=vH _ (qb6 e2);cases hc
 . refine Wr (?g (?t ⟨q,hb⟩)) ?d8;rw[z,hD]at hb;cases hb
 . exact ?t hb
structure ID(D nm r1 D1 D2 b2:Addr):Prop where
 e1:nm≠D
 e2:r1≠D
 e3:D1≠D
 e4:D2≠D
 e5:b2≠D
theorem Q3.put[?bS]{D tp nm r1 D1 D2 b2:Addr}{n w k:Nat}[?cP]{l r:?cW}{us:?r}{o:HO}(x:?AH H)(ne:?pG)[?nS](vH:zI us):?AH ?iN :=
 ⟨QW x.tup hD,Wr x.num ne.e1,?BI x.left ne.e2,?BI x.lback ne.e3,?BI x.right ne.e4,?BI x.rback ne.e5⟩
theorem Z6.ne[?bU][?cQ]{tp nm r1 D1 D2 b2 D:Addr}{n w k:Nat}[?cP]{l r:?cW}{o:HO}(x:Z6 K H H' tp nm r1 D1 D2 b2 n w k f l r)(hD:H D=?aQ):?pG:=by
 have go:∀a,(a=nm\/a=r1\/a=D1\/a=D2\/a=b2)->a≠D:=fun a h z=>by
  have:=(x.new a h).1;rw[z,hD]at this;cases this
 exact⟨go _ (?g rfl),go _ (?t (?g rfl)),?B7 ?g rfl,?B7 ?t (?g rfl),?B7 ?t (?t rfl)⟩
noncomputable def vZ[?v](H:Hp)(a D:Addr)(xs:Am)(k:Nat)(σ:St)(G':Hp):Prop :=
 ∃(us:?r) (ls:?h5) (la ga:Addr) (z:Nat) (L G:Lat.Mat) (o4 o5 o6 o7:?c1 V),σ=[rS a,rS D,rS la,rS ga,o4,o5,o6,o7]/\?o0/\G' D=?aY/\ls.length=k/\?BH k/\Fx D G' us ls/\la≠D/\ga≠D ∧
   Rep K G' (?j la) (dT z ?eF L)/\Rep K G' (?j ga) (dT z ?eF G)/\Lat.Lev (Dh xs (?I-1)) ?eF z (Ni xs ?I) L G/\z<=?jE/\?bY z ?eF ?a8 L/\?bY z ?eF ?a8 G
theorem Fx.out[?b8]{H:Hp}[?J][?bR][?j5]:?u5 :=
 (?zX _ ⟨a,us,e,h1,h2⟩)
theorem Fx.same[?b8][?cQ][?J][?bR][?j5][?dY]:Fx D H' vs ls :=
 (?zX n ⟨a,us,e,n,?lH,h2.same s⟩)
theorem Fx.refs[?b8]{H:Hp}[?J][?bR][?j5]:zI vs:=fun u hu=>by
 obtain⟨i,hi⟩:=qh7 hu;have hl:=(?b6 hi).1;have h0:=h.1;obtain⟨a,_,e,_⟩:=h.2 i u _ hi (?dC);exact⟨a,e⟩
theorem Fx.snoc{D E:Addr}{H:Hp}{vs eu:?r}[?bR][?aU][?j5](hD:?C4 vs)(ne:E≠D)(hE:H E=?zG eu)(r:B4 H eu ps):Fx D (upd H D (?n (vs++[?j E]))) (vs++[?j E]) (ls++[ps]):=by
 refine⟨by rw[qb1,qb1,h.1];rfl,fun i v qs e1 e2=>?_⟩;have h0:=h.1;by_cases hi:?wV
 . rw[qb8 hi]at e1;rw[?eR]at e2;obtain⟨a,us,e,n,h1,h2⟩:=h.2 i v qs e1 e2;exact⟨a,us,e,n,by rw[Ak n];exact h1,?kF hD h2⟩
 . have hi2:=?wD;rw[qb1,qg8]at hi2;have ei:?x5:=O9m
   subst ei;rw[?bF,qh5]at e1;rw[h0,?bF,qh5]at e2;have q1:v=?j E:=?tX
   have q2:qs=ps:=?sP
   subst q1 q2;exact⟨E,eu,rfl,ne,by rw[Ak ne];exact hE,?kF hD r⟩
universe Hb
namespace L2
open PySem PySem.Spec PyProof.Rows PySem.SeqAt
section
variable{X:Cx}{n:Nat}[?bU]
universe e9
universe L2
namespace Hb
open PySem L2
noncomputable def Wv[?aT]:?cE:=?BL ps.filter (p.1≠1)
theorem eE[?aT](p:Bz):Wv ?t0=if ?hL then ?hO else ?hO++[p]:=by
 unfold Wv;rw[qg3];by_cases h:?hL
 . rw[?D h,qi1,?o (by simp[h]),ql7,qp0]
 . rw[?e0,qi1,?D (by simp[h]),ql7]
noncomputable def lift1(fl:Ms)[?fY](g:?R):?aJ:=lf.set ?s1 (Gn (lf.getD ?s1 []) (T5 g.2 fl))
noncomputable def JB[?fY](p:Bz):?aJ:=if ?hL then p.2.2.1.foldl (lift1 ?h4) lf else lf
noncomputable def Vp[?fY][?aT]:?aJ:=ps.foldl JB lf
noncomputable def N1(n:Nat)[?bQ]:?aJ:=ls.foldl Vp (?fK n [])
structure Ml(ms:Ms):Prop where
 n:?bV
 z:nz ms
 k:inK ms
theorem Ml.nil:Ml []:=⟨List.nodup_nil,(fun p h=>?eL),(fun p h=>?eL)⟩
theorem Ml.len{ms:Ms}(h:Ml ms):ms.length<=40:=by
 have:=oJ (?C fun(p:?R)=>p.1) (iK 40) h.n fun x hx=>by
  obtain⟨p,hp,rfl⟩:=?X hx;have:=h.k p hp;unfold iK;exact qf2.mpr ⟨?iC,?lJ,O9m⟩
 rwa [qa2,P4]at this
theorem eO{ms:Ms}{j:Int}(h:?hJ≠0):j∈?C (·.1):=by
 by_cases e:j∈?C (·.1)
 . exact e
 . exact ?eH (M7 e) h
theorem Ml.plus{ms ns:Ms}(h1:Ml ms)(h2:Ml ns):Ml ?dQ:=by
 obtain⟨r1,r2,_,r4⟩:=IV ns ms h1.n h1.z h2.n;refine⟨r1,r2,?gY⟩;have e:=EJ r1 hp;have e2:Da ?dQ p.1=p.2:=by unfold Da;rw[e];rfl
 have hz:=r2 p hp;rw[←e2,r4]at hz
 have:p.1∈?C (·.1)\/p.1∈?l3 (·.1):=by
  by_cases q:Da ms p.1=0
  . exact ?t (eO O9m)
  . exact ?g (eO q)
 rcases this with h | h
 . obtain⟨q,hq,eq⟩:=?X h;rw[←eq];exact h1.k q hq
 . obtain⟨q,hq,eq⟩:=?X h;rw[←eq];exact h2.k q hq
theorem Ml.times{ms:Ms}(h:Ml ms)(n:Int):Ml ?xI:=by
 unfold T5;split
 . exact Ml.nil
 . rename_i hn
   refine⟨?_,?gY,?gY⟩
   . have:=h.n;unfold nd at this ⊢;rw[qm0];exact this
   . obtain⟨q,hq,rfl⟩:=?gA;exact Int.mul_ne_zero hn (h.z q hq)
   . obtain⟨q,hq,rfl⟩:=?gA;exact h.k q hq
noncomputable def Z4(n:Nat)[?fY]:Prop:=lf.length=n/\∀m∈lf,Ml m
theorem Z4.at{n:Nat}{lf:?aJ}(h:Z4 n lf)(i:Nat):Ml (lf.getD i []):=by
 rw[qa4];cases e:lf[i]? with
 | none=>exact Ml.nil
 | some m=>exact h.2 m (qb6 e)
theorem Z4.lift1{n:Nat}{lf:?aJ}{fl:Ms}(h:Z4 n lf)(hf:Ml fl)(g:?R):Z4 n (lift1 fl lf g):=by
 refine⟨by unfold Hb.lift1;rw[qi6];exact h.1,?rF⟩;rcases qn5 hm with q | rfl
 . exact h.2 m q
 . exact(h.at _).plus (hf.times _)
structure PU(n:Nat)(p:Bz):Prop where
 gk:∀g∈?k2,0<=g.1/\g.1<?b0
 fl:Ml ?h4
 mul:∀g∈?k2,∀q∈?h4,?eX g.2 q.2
noncomputable def Fz(O H:Hp)(vs:?r)[?fY]:Prop:=vs.length=lf.length/\∀(i:Nat) v,?eI->∃c,v=?cJ/\?lS/\H c=?zK (lf.getD i [])
theorem Z4.first(n:Nat):Z4 n (?fK n []):=⟨qk9 ..,fun m hm=>by rw[(qv3.mp hm).2];exact Ml.nil⟩
theorem Fz.same{O H H':Hp}[?J]{lf:?aJ}(h:?mV)[?dY]:?p5 :=
 (?AZ ⟨c,e1,e0,s _ _ e2⟩)
theorem Fz.keep{O H H':Hp}[?J]{lf:?aJ}(h:?mV)(s:∀c kvs,?lS->H c=?c (.dK kvs)->H' c=?c (.dK kvs)):?p5 :=
 (?AZ ⟨c,e1,e0,s _ _ e0 e2⟩)
theorem Fz.snoc{O H:Hp}[?J][?yG]:Fz O H (vs++[?cJ]) (lf++[m]):=by
 have h0:=h.1;refine⟨by rw[qb1,qb1,h0];rfl,fun i v ei=>?_⟩;rw[qa4];by_cases hi:?wV
 . rw[qb8 hi]at ei;rw[?eR,←qa4];exact h.2 i v ei
 . have hi2:=(?b6 ei).1;rw[qb1,qg8]at hi2;have eq:?x5:=O9m
   subst eq;rw[?bF,qh5]at ei;rw[h0,?bF,qh5];have q1:v=?cJ:=by simpa using ei.symm
   exact ?y5
theorem Fz.set{O H:Hp}[?J][?yG](i:Nat):Fz O H (vs.set i (?cJ)) (lf.set i m):=by
 have h0:=h.1;refine⟨by rw[qi6,qi6,h0],fun j v ej=>?_⟩;rw[qa4];by_cases q:i=j
 . subst q;have hl:=(?b6 ej).1;rw[qi6]at hl;rw[qp2 hl]at ej;rw[qp2 ?q];have q1:v=?cJ:=by simpa using ej.symm
   exact ?y5
 . rw[ql2 q]at ej;rw[ql2 q,←qa4];exact h.2 j v ej
noncomputable def Kn[?g0]:Sp:=fun vs H Q _=>Og fun ?aA ?jD ?v3=>Dn (vs=[?s]) (H a=?aY) (?vO) (ps.length<=1000) (∀(D:Addr) (us':?r) (H':Hp),?aD->?B->?aP=?zG us'->B4 H' us' (?hO)->?aK)
noncomputable def Vi[?v]:Sp:=fun vs H Q _=>bB fun ?c4 ?x ?jD ?gE=>Mn ?i0 ?Q ?bK (H b=?aY) (Oh H us ls) ((∀ps∈ls,?oW)) (∀(D:Addr) (ws:?r) (H':Hp),?aD->?B->?aP=?zG ws->Fz H H' ws (N1 ?aV ls)->?aK)
theorem Us(n:Nat):Dq n=((n-1:Nat):Int):=by
 unfold Dq;ext bT
theorem LP{xs:Am}[?fZ](h:?iW):Y7 xs (tI p)=true:=by
 have bl:∀f∈p,∃q,?n7=?bO/\?dJ=q/\f.toNat<xs.length/\q.length-1+1=?oO:=fun f hf=>by
  obtain⟨q,e,l⟩:=h.bel f hf;obtain⟨hlt,_⟩:=?b6 e;exact⟨q,e,by rw[qa4,e];rfl,hlt,l⟩
 show Y7 xs (?N (D9 p))=true;rw[Qc];have hl:(D9 p).length=p.length:=by simp[D9]
 rw[hl];simp only[qc8,qq6];refine⟨⟨?_,?_⟩,?_⟩
 . rcases h.cnt with e | e | e | e<;>rw[e]<;>rfl
 . rw[qe9];intro d hd;obtain⟨f,hf,rfl⟩:=?X hd;obtain⟨q,e,eq,hlt,l⟩:=bl f hf;have h0:=h.low f hf;show(?f (0<=f)&&?f (f<?cA)&&?f (Dq ?w6=Dq ?wB-1))=true;rw[eq,Us,Us];simp only[qc8,qp3];omega
 . by_cases h3:3<=p.length
   . right
     have e0:(D9 p).map uL=p:=by
      unfold D9;rw[qm0];exact ?w2 p
     rw[e0];unfold Mj;rw[qe9];intro j hj;rw[qe9];intro i hi;have hj:=?iS hj;have hi:=?eT;unfold Tu;rw[qp3];have ej:p[j]?=?c p[j]:=qa0 hj;have ei:p[i]?=?c (p[i]' ?dZ):=?dC;obtain⟨q,e1,e2,_⟩:=bl p[j] (qd3 hj);obtain⟨r,e3,e4,_⟩:=bl (p[i]' ?dZ) (?hN);have key:=h.agr h3 i j _ _ q r hi ej ei e1 e3;rw[show ?iZ=p[j] by rw[qa4,ej];rfl,show ?i7=p[i]' ?q by rw[qa4,ei];rfl,e2,e4,qa4,qa4,key]
   . left;rw[Us];simp;omega
theorem W1[?b7]{v:?z}[?fW](h:q∈?oM):(0<=q.1/\?kP)/\∃c,c<?f0/\q.2=v c:=by
 obtain⟨h1,h2⟩:=tV h;have h3:=Iv h1;obtain⟨c,hc,e⟩:=?X h2;exact⟨⟨h3.1,h3.2.1⟩,c,?iS hc,e.symm⟩
theorem zF{xs:Am}[?fT](k:Int)(v:?z):Ml (?oM):=by
 refine⟨?_,?mP,?mP⟩
 . have:=mP (sp:=?a6) (ns:=?oF) (by rw[Iy]) (?mK);unfold nd at this ⊢;exact this.sublist (?tA _ (qu9 ..))
 . have:=(?gL hq).2;simpa using this
 . have:=(W1 hq).1;omega
theorem bA.ok[?b7][?aU](h:?wW)[?fT]:?oW:=by
 obtain⟨z,k0,L,G,f,l,r,bl,rfl⟩:=h;intro p hp;obtain⟨i,hi,rfl⟩:=?gA;have hi:=?eT;have hz:z<=40:=?tB;refine⟨fun g hg=>(W1 hg).1,?_,fun g hg q hq=>?_⟩
 . show Ml (?k3);split
   . exact Ml.nil
   . exact zF J0 _ _
 . obtain⟨_,c,hc,e⟩:=W1 hg
   replace hq:q∈(?k3):=hq
   split at hq
   . cases hq
   . rename_i e0
     have hik:i<k0:=by
      by_cases hh:i<k0
      . exact hh
      . unfold Lat.numAt at e0;rw[?o hh]at e0;exact ?eH rfl e0
     obtain⟨_,d,hd,e2⟩:=W1 hq
     have h1:(?n6 z l.1 G i c).natAbs<2 ^ (bookF+bookF+z):=pR fun j hj=>by
      rw[qb2,qd8];exact qp8 (bl.fin.bl.1 i j hi hj) (bl.bG j c hj hc)
     have h2:=bl.fin.br.1 i d (qb4 hik bl.kw) hd;rw[e,e2];exact S8 h1 h2 (by unfold bookF;omega)
theorem B4.kd[?cQ](s:∀c o,H c=?aQ->((∃l,o=?N l)\/∃l,o=.dK l)->H' c=?aQ):?wK
 | [],[],h=>h
 | ?eS,?eE,h=>by
   obtain⟨⟨t,a,b,c,e,h1,h2,h3,h4,ne⟩,h5⟩:=h;exact⟨⟨t,a,b,c,e,s _ _ h1 (?g ?f1),?BG h2,?BG h3,?BG h4,ne⟩,B4.kd s h5⟩
 | [],?a3,h=>h.elim
 | ?a3,[],h=>h.elim
theorem bA.len[?b7][?aU](h:?wW)[?fT]:ps.length<=40:=by
 obtain⟨z,k0,L,G,f,l,r,bl,rfl⟩:=h;unfold Gh;rw[qa2,qj2];exact ?tB
noncomputable def LK(H:Hp)(d:Addr):Hp:=fun a=>if a=d then none else H a
theorem Lq{H:Hp}{c d:Addr}(h:c≠d):LK H d c=H c:=?e0
theorem jF{H:Hp}{d:Addr}:LK H d d=none:=?O
theorem LJ{H:Hp}{d:Addr}:?E ?qW H:=fun c o e=>by
 by_cases h:c=d
 . rw[h,jF]at e;cases e
 . rwa [Lq h]at e
theorem oU{O H:Hp}{d:Addr}(s:?E O H)(h:O d=none):?E O ?qW:=fun c o e=>by
 rw[Lq (Ar e h)];exact s c o e
structure Z7[?v](C:Addr)(B:Hp)(p:Addr)(xs:Am)[?bQ]:Prop where
 ob:UG fun dx P Lv Lf lu wu=>B p=?c (.ins C dx [(?qX,?j P),(?xX,?j Lv),("lifts",?j Lf)])/\Dn (LT K B (?j P) xs) (B Lv=?zG lu) (Oh B lu (ls.map Wv)) (B Lf=?zG wu) (Fz (fun _=>none) B wu (N1 ?aV ls))
 sh:?b4
 len:?lQ
 n4:?vI
 lev:∀(k:Nat) ps,?lL->bA xs ?I ps
 tie:?mD
noncomputable def IQ[?v]:Sp:=fun vs H Q _=>Jj fun ?e9 ?x=>B6 (vs=[v]) (LT K H v xs) ?bK (Q (.bl true) H)
noncomputable def Xb[?v]:Sp:=?BW (∀H',?B->?m3)
noncomputable def Sk[?v]:Sp:=?BW (∀H',?xB)
noncomputable def DL[?v](C:Addr):Sp:=fun vs H Q _=>UG fun(p dx a:Addr) ?jD (H0:Hp) ?x=>jY (vs=[?b9,?s]) (H p=?c (.ins C dx [])) (H a=?aY) (?bD K H0 us (xs.map tI)) (?E H0 H) (H0 a=none) (H0 p=none) ?dN ?bK (∀(B:Hp) [?bQ] (H':Hp),SameX p H H'->?hR->?E H0 B->?E B H'->B a=none->?m3)
theorem Oh.at{H:Hp}[?J][?bR]{k:Nat}(h:?u5)(hk:k<ls.length):∃a us ps,vs[k]?=?lY/\?lL/\?lD:=by
 have h0:=h.1;have e1:vs[k]?=?c (vs[k]' ?dZ):=?dC;have e2:ls[k]?=?c ls[k]:=qa0 hk;obtain⟨a,us,e,h1,h2⟩:=h.2 k _ _ e1 e2;exact⟨a,us,_,by rw[e1,e],e2,h1,h2⟩
universe Hb
namespace L2
open PySem PySem.Spec PyProof.Rows PySem.SeqAt
section
variable{X:Cx}
universe e9
universe L2
namespace Hb
open PySem L2
universe Hb
namespace L2
open PySem PySem.Spec PyProof.Rows
noncomputable def OQ:Expr->?c1 Int
 | .Constant (?aC) _ _=>?c i
 | _=>none
noncomputable def Yt:?l5->?c1 (?e)
 | []=>?c []
 | e::es=>match OQ e,Yt es with
   | ?c i,?c is=>?c (i::is)
   | _,_=>none
noncomputable def uM(ns:?e):TA:=fun _ H Q=>Q ?d0 H
theorem IX{X:Cx}:∀[?cO][?j9],?y0->PA X es (uM ns)
 | [],ns,h=>by
   cases h;exact Ac
 | e::es,ns,h=>by
   unfold Yt at h;cases e1:OQ e with
   | none=>rw[e1]at h;cases h
   | some i =>
     cases e2:Yt es with
     | none=>rw[e1,e2]at h;cases h
     | some is =>
       rw[e1,e2]at h;cases h;unfold OQ at e1;split at e1
       case h_2=>cases e1
       case h_1 =>
        cases e1;exact Aa Aj (IX e2)
structure PAw(X:Cx)(es:?l5)(t:TA):Prop where
 h:PA X es t
theorem nO{X:Cx}[?cO][?j9](h:?y0):PAw X es (uM ns):=⟨IX h⟩
structure PEw(X:Cx)(e:Expr)(t:TE):Prop where
 h:PE X e t
theorem RW{X:Cx}[?bU]{sl:Expr}[?cO]{k:Nat}{p q:Pos}{ta:TA}{tsl:TE}(ha:PAw X es ta)(hsl:PE X sl tsl)(hpi:jR sl)(hK:X.K=K:=by rfl) :
 PEw X (.Subscript (.Tuple es k p) sl q) (tOp (WV K) (Ad5 ta) tsl):=by
 subst hK;exact⟨Bc Bi (C7 ha.h) hsl hpi⟩
universe L2
namespace Hb
open PySem L2
noncomputable def Nd[?a5](ns:?e):Prop:=∃m f E l r,ns=Hu m f/\Lat.DiagAt ?bN ?U m E ?d2 l.1 l.2 r.1 r.2 f/\Nf ?bN l/\Nf ?U r/\?p4 m m f
theorem NS{m w:Nat}(B:Lat.Mat):∀q c,q<m->c<w->B q c=Al (fun i=>?cZ i q*B i c) m:=fun q c hq _=>by
 rw[Lat.sumN_one hq fun k _ ne=>by unfold Lat.one;rw[?jP,qj6]];unfold Lat.one;rw[?O,qd1]
theorem mU[?dU][?fT](k:Int):P1 ?bN ?U ?d2 (uG ?bN ?U (2 ^ kB ?bN) ?a8 (kS ?bN ?U) ?d2):=by
 obtain⟨p,st⟩:=(Lat.Lev.first ?bN ?d2).st;exact AV st (NS _) (fun q c _ _=>iL h4 _ q c) (qa5 (dR O9m) J0)
theorem Nd.same[?b7]{ns ms:?e}(h:?tO)(h':Nd xs k ms):ns=ms:=by
 obtain⟨m,f,E,l,r,rfl,d,il,ir,c⟩:=h;obtain⟨m',f',E',l',r',rfl,d',il',ir',c'⟩:=h';obtain⟨rfl,e⟩:=d.uniq il ir c d' il' ir' c';exact qo1 fun i hi=>e i (?eT)
theorem v7.num{xs:Am}{j:Int}[?fR][?nR](hs:?b4)[?j9](h:Nd xs ?f8 ns):ns=?jJ:=by
 obtain⟨m,g,E,l',r',rfl,d,il,ir,c⟩:=h;rw[show j+1-1=j by omega]at d il;obtain⟨rfl,e⟩:=d.uniq2 il ir c b.fin.dg b.fin.il b.fin.ir b.ch (U:=G) (V:=fun a i=>L i a) (fun _ _ _ _=>rfl) (b.lev.told (OI hs j));exact qo1 fun i hi=>e i (?eT)
theorem NV{xs:Am}[?j9](h:Nd xs 0 ns):ns=[]:=by
 obtain⟨m,f,E,l,r,rfl,d,_⟩:=h;have e0:Dh xs (0-1)=0:=by show(?uP).length=0;rw[iW];rfl
 have:=d.mn;rw[e0]at this;rw[show m=0 by omega];rfl
noncomputable def l9[?aT]:Nat:=(?BL ?pN (p.1=0)).length
noncomputable def qI[?aT]:?e:=(?BL ?pN (p.1≠0)).map (·.1)
theorem JN[?b7][?fR](h:k0<=z):(?l8).map (·.1)=?jJ++?fK (z-k0) 0:=by
 unfold Gh Hu;rw[qm0];refine qp4 fun i=>?_;rw[qa8];by_cases hi:i<k0
 . rw[qb8 (by rw[qa2,qj2];exact hi),qa8,qm1 hi,qm1 ?q];show ?uN=?c (f i);unfold Lat.numAt;rw[?mL]
 . rw[qc4 (by rw[qa2,qj2];omega),qa2,qj2,qs7];by_cases hz:i<z
   . rw[qm1 hz,?f3];show ?uN=?c 0;unfold Lat.numAt;rw[?o hi]
   . rw[qg9 (by rw[qj2];omega),?aB];rfl
theorem LZ[?aT]:l9 ps=((ps.map (·.1)).filter ?sG).length:=by
 unfold l9 Wv;rw[List.filter_filter,List.filter_map,qa2]
 congr 1
 refine qw0 fun p _=>?_;by_cases h:p.1=0
 . simp[h]
 . simp[h]
theorem MS[?aT]:?h7=(ps.map (·.1)).filter ?wF:=by
 unfold qI Wv;rw[List.filter_filter,List.filter_map]
 congr 1
 refine qw0 fun p _=>?_;by_cases h:p.1=0<;>by_cases h1:?hL<;>simp[h,h1]
theorem v7.count{xs:Am}{j:Int}[?fR][?nR]:l9 (?zB Gh j)=z-k0:=by
 rw[LZ,JN b.kz,qg3,qb1]
 have e1:?pC (?sG)=[]:=?wA fun n hn=>by
  ext yI;simp;omega
 rw[e1,List.filter_eq_self.mpr fun n hn=>by rw[(qv3.mp hn).2];rfl,qk9,qh2,qt7]
theorem v7.twist{xs:Am}{j:Int}[?fR][?nR]:qI (?zB Gh j)=?pC ?mO:=by
 rw[MS,JN b.kz,qg3];have e1:(?fK (z-k0) ?c5).filter (?wF)=[]:=?wA fun n hn=>by rw[(qv3.mp hn).2];simp
 rw[e1,qp0];refine qw0 fun n hn=>?_;ext yI;by_cases h:1<f i
 . rw[qg4 h,qg4 ?q]
 . rw[qj4 h,qj4 ?q]
theorem fP{xs:Am}[?bR](h:?mD)(hs:?b4){k:Nat}(hk:k<4)[?aU](hp:?lL){n1 n2:?e}(h1:Nd xs ?I n1)(h2:Nd xs (?I+1) n2) :
 l9 ps+n1.length+n2.length=?jE/\?h7=?u6 ?mO:=by
 obtain⟨_,_,_,zs,ks,Ls,Gs,fs,lp,rp,t,_⟩:=h;obtain⟨b,e⟩:=t.lv k hk;rw[e]at hp;cases hp;have e2:=b.num hs h2;rw[b.count,b.twist,e2,Iy];refine⟨?_,rfl⟩;have kz:=b.kz;have zm:=b.zm;have kw:=b.kw;cases k with
 | zero =>
   rw[NV h1,t.z0.1]at *;show ?eN-ks 0+0+ks 0=?eN;omega
 | succ q =>
   obtain⟨b',_⟩:=t.lv q O9m;have e1:=b'.num hs (ns:=n1) (by rw[show ?oH=?oA by omega];exact h1);have ez:=(t.nx q O9m).1;have kw':=b'.kw;rw[e1,Iy];rw[show ?oA=?oH by omega];omega
noncomputable def nL(ns:Am):D:=?n (?l3 fun n=>?n (D9 n))
noncomputable def La(H:Hp)(D:Addr)(ms:Am):Prop:=∃bs:?k7,?C4 (bs.map V.ref)/\?uD/\?pZ
theorem La.same[?cQ][?b8]{ms:Am}(h:?vV)[?dY]:La H' D ms :=
 let ⟨bs,h1,h2,h3⟩:=h
 ⟨bs,?lH,h2,fun j b n e1 e2=>⟨(?t2).1,s _ _ (?t2).2⟩⟩
theorem La.rep[?bS][?b8]{ms:Am}(h:?vV):?AK (?j D) (nL ms):=by
 obtain⟨bs,h1,h2,h3⟩:=h;refine⟨D,_,rfl,.of h1,?_⟩;clear h1
 induction ms generalizing bs with
 | nil =>
   have:bs=[]:=List.length_eq_zero_iff.mp h2;subst this;exact rfl
 | cons n ms ih =>
   cases bs with
   | nil=>simp at h2
   | cons b bs =>
     refine⟨?c7,bs.map V.ref,rfl,⟨b,_,rfl,.of (h3 0 b n rfl rfl).2,Ei.mpr rfl⟩,ih bs (by simpa using h2) fun j c m e1 e2=>h3 ?f8 c m (by simpa using e1) (by simpa using e2)⟩
theorem La.snoc[?cQ]{D b:Addr}{ms:Am}{n:?e}{bs:?k7}(h1:?C4 (bs.map V.ref))(h2:?uD)(h3:?pZ)[?dY](nb:?gT)(hb:H' b=?zG (n.map ?w)) :
 ∀(j:Nat) c m,(bs++[b])[j]?=?c c->?uL[j]?=?c m->c≠D/\upd H' D (?n ((bs++[b]).map V.ref)) c=?zG (m.map ?w):=fun j c m e1 e2=>by
 by_cases hj:j<bs.length
 . rw[qb8 hj]at e1;rw[?eR]at e2;obtain⟨q1,q2⟩:=h3 j c m e1 e2;exact⟨q1,by rw[Ak q1];exact s _ _ q2⟩
 . have hl:=?wD;rw[qb1,qg8]at hl;have ej:j=bs.length:=O9m
   subst ej;rw[?bF,qh5]at e1;rw[h2,?bF,qh5]at e2;have q1:c=b:=?tX
   have q2:m=n:=?sP
   subst q1 q2;exact⟨nb,by rw[Ak nb];exact hb⟩
noncomputable def Se(xs:Am)(ms:Am):Prop:=∀(k:Nat) n,ms[k]?=?c n->Nd xs ?I n
theorem Se.snoc{xs ms:Am}{n:?e}(h:Se xs ms)(hn:Nd xs (ms.length:Int) n):Se xs ?uL:=fun k m e=>by
 by_cases hk:k<ms.length
 . rw[qb8 hk]at e;exact h k m e
 . have hl:=?t7;rw[qb1,qg8]at hl;have ek:k=ms.length:=O9m
   subst ek;rw[?bF,qh5]at e;have:m=n:=by simpa using e.symm
   subst this;exact hn
theorem SJ[?b7]{n:?e}(h:Nd xs k n)[?fT]:n.length<=40:=by
 obtain⟨m,f,E,l,r,rfl,d,_⟩:=h;rw[Iy];exact qa5 d.mw (qa5 (Fn _ _ _) J0)
theorem xV(ms:Am):eqD (nL ms) (?n [])=?f (ms=[]):=by
 cases ms with
 | nil=>rfl
 | cons m ms=>rfl
theorem XU(ms:Am):((?C ?lX).any fun e=>eqD e ?bH)=false:=by
 induction ms with
 | nil=>rfl
 | cons m ms ih=>rw[qd5,qm2,ih];rfl
theorem BS:∀ms:Am,?vC<=1
 | []=>?aL
 | m::ms=>by
   have:=BS ms;have e:deps ((m::ms).map ?lX)=max (deps (D9 m)+1) (?vC):=rfl;rw[e,Kj];omega
section
variable[?v]
noncomputable def aC(C:Addr):Sp:=fun vs H Q _=>bB fun ?kC ?I ?mS ?x ?gE=>Hq (vs=[?b9,?S]) (?hR) (?E B H) ?cV (k<4) (∀[?aT] (H':Hp),?jQ->?B->Q (?d ?x0) H')
noncomputable def Xi(C:Addr):Sp:=fun vs H Q _=>bB fun ?kC ?I ?mS ?x ?gE=>Hq (vs=[?b9,?S]) (?hR) (?E B H) ?cV (k<4) (∀[?aT] [?fV],?jQ->?BS ((?h7).map ?w))
noncomputable def Xd:Sp:=fun vs H Q _=>Og fun ?aA ?x ?I=>Dn (vs=[?s,?S]) ?Q ?d5 ?cV (Q (?d ((?f0:Nat):Int)) H)
noncomputable def DH:Sp:=fun vs H Q _=>Og fun ?aA ?x ?I=>Mn (vs=[?s,?S]) ?Q ?dN ?bK ?cV (k<5) (∀(D:Addr) (ns:?e) (H':Hp),?aD->?B->?aP=?zG ?d0->?tO->?aK)
noncomputable def z9(C:Addr):Sp:=fun vs H Q _=>fJ fun ?kC ?e9 (k many:Int) ?mS ?x ?gE (ns:Am) ?v3 (n1 n2:?e)=>WA (vs=[?b9,?S,?d many,v]) (?hR) (?E B H) ?cV (k<4) (?AK v (nL ns)) (?jQ) (ns[k.toNat]?=?c n1) (ns[k.toNat+1]?=?c n2) (?x0=many-(n1.length:Int)-(n2.length:Int)) (?h7=?u6 (?mO)) (n2.length<=40) (∀(H':Hp),?xB)
noncomputable def iR:Sp:=fun vs H Q _=>Og fun(c:Addr) ?m2 ?gV=>B6 (vs=[?cJ,?d m]) (?B0 c ?d0) (ns.length<=63) (∀(p:Addr) [?g1] (H':Hp) (xs:Am),?gW->?B->?pH->?bD K H' us (xs.map tI)->?b4->xs.length<=ns.length->Q (?b9) H')
universe e9
theorem Kl{S:St}{p0:?M}[?p](k:∀H,p0 H->?qL):?z6 (σ=S/\p0 H):=by
 rintro _ H ⟨rfl,h0⟩;exact k H h0
theorem iH{S:St}{p0 p1:?M}[?p](k:∀H,p0 H->p1 H->?qL):?z6 (Fc (σ=S) (p0 H) (p1 H)):=by
 rintro _ H ⟨rfl,h0,h1⟩;exact k H h0 h1
theorem Sg[?aF]{p0 p1:?c8}[?p](k:∀x0 H,?e1->?fM->?fC):?z6 (Er fun x0=>Fc ?cL ?c3 ?d4):=by
 rintro _ H ⟨x0,rfl,h0,h1⟩;exact k x0 H h0 h1
theorem v9[?aF]{p0 p1 p2:?c8}[?p](k:∀x0 H,?e1->?fM->?h2->?fC):?z6 (Er fun x0=>B6 ?cL ?c3 ?d4 ?hY):=by
 rintro _ H ⟨x0,rfl,h0,h1,h2⟩;exact k x0 H h0 h1 h2
theorem UJ[?aF]{p0 p1 p2 p3:?c8}[?p](k:∀x0 H,?e1->?fM->?h2->?lU->?fC):?z6 (Er fun x0=>Dn ?cL ?c3 ?d4 ?hY (p3 x0 H)):=by
 rintro _ H ⟨x0,rfl,h0,h1,h2,h3⟩;exact k x0 H h0 h1 h2 h3
theorem Ac9[?aF]{p0 p1 p2 p3 p4:?c8}[?p](k:∀x0 H,?e1->?fM->?h2->?lU->?y1->?fC):?z6 (Er fun x0=>Hq ?cL ?c3 ?d4 ?hY (p3 x0 H) ?t6):=by
 rintro _ H ⟨x0,rfl,h0,h1,h2,h3,h4⟩;exact k x0 H h0 h1 h2 h3 h4
theorem IG[?aF]{p0 p1 p2 p3 p4 p5:?c8}[?p](k:∀x0 H,?e1->?fM->?h2->?lU->?y1->p5  x0 H->?fC):?z6 (Er fun x0=>Mn ?cL ?c3 ?d4 ?hY (p3 x0 H) ?t6 (p5 x0 H)):=by
 rintro _ H ⟨x0,rfl,h0,h1,h2,h3,h4,h5⟩;exact k x0 H h0 h1 h2 h3 h4 h5
theorem uJ[?aE]{p0:?fG}[?p](k:∀x0 x1 H,?fL->?eK):?z6 (Jj fun x0 x1=>?fH/\?x1):=by
 rintro _ H ⟨x0,x1,rfl,h0⟩;exact k x0 x1 H h0
theorem UI[?aE]{p0 p1:?fG}[?p](k:∀x0 x1 H,?fL->?iF->?eK):?z6 (Jj fun x0 x1=>Fc ?c6 ?gG ?iJ):=by
 rintro _ H ⟨x0,x1,rfl,h0,h1⟩;exact k x0 x1 H h0 h1
theorem Ac8[?aE]{p0 p1 p2:?fG}[?p](k:∀x0 x1 H,?fL->?iF->?jM->?eK):?z6 (Jj fun x0 x1=>B6 ?c6 ?gG ?iJ (?BT p2)):=by
 rintro _ H ⟨x0,x1,rfl,h0,h1,h2⟩;exact k x0 x1 H h0 h1 h2
theorem iG[?aE]{p0 p1 p2 p3:?fG}[?p](k:∀x0 x1 H,?fL->?iF->?jM->?sT->?eK):?z6 (Jj fun x0 x1=>Dn ?c6 ?gG ?iJ (?BT p2) (?BT p3)):=by
 rintro _ H ⟨x0,x1,rfl,h0,h1,h2,h3⟩;exact k x0 x1 H h0 h1 h2 h3
theorem Ac7[?aE]{p0 p1 p2 p3 p4 p5 p6:?fG}[?p](k:∀x0 x1 H,?fL->?iF->?jM->?sT->?AO p4->?AO p5->?AO p6->?eK):?z6 (Jj fun x0 x1=>Ve ?c6 ?gG ?iJ (?BT p2) (?BT p3) (?BT p4) (?BT p5) (?BT p6)):=by
 rintro _ H ⟨x0,x1,rfl,h0,h1,h2,h3,h4,h5,h6⟩;exact k x0 x1 H h0 h1 h2 h3 h4 h5 h6
theorem Ac6[?bP]{p0 p1:?gM}[?p](k:∀x0 x1 x2 H,?i3->?h9->?gZ):?z6 (Og fun x0 x1 x2=>Fc ?bZ ?i5 ?hZ):=by
 rintro _ H ⟨x0,x1,x2,rfl,h0,h1⟩;exact k x0 x1 x2 H h0 h1
theorem uI[?bP]{p0 p1 p2:?gM}[?p](k:∀x0 x1 x2 H,?i3->?h9->?kN->?gZ):?z6 (Og fun x0 x1 x2=>B6 ?bZ ?i5 ?hZ (?BP p2)):=by
 rintro _ H ⟨x0,x1,x2,rfl,h0,h1,h2⟩;exact k x0 x1 x2 H h0 h1 h2
theorem IF[?bP]{p0 p1 p2 p3 p4:?gM}[?p](k:∀x0 x1 x2 H,?i3->?h9->?kN->?tF->?q5->?gZ):?z6 (Og fun x0 x1 x2=>Hq ?bZ ?i5 ?hZ (?BP p2) (?BP p3) (?BP p4)):=by
 rintro _ H ⟨x0,x1,x2,rfl,h0,h1,h2,h3,h4⟩;exact k x0 x1 x2 H h0 h1 h2 h3 h4
theorem Ac5[?bP]{p0 p1 p2 p3 p4 p5:?gM}[?p](k:∀x0 x1 x2 H,?i3->?h9->?kN->?tF->?q5->?A3 p5->?gZ):?z6 (Og fun x0 x1 x2=>Mn ?bZ ?i5 ?hZ (?BP p2) (?BP p3) (?BP p4) (?BP p5)):=by
 rintro _ H ⟨x0,x1,x2,rfl,h0,h1,h2,h3,h4,h5⟩;exact k x0 x1 x2 H h0 h1 h2 h3 h4 h5
theorem Ac4[?j1]{p0:?m4}[?p](k:∀x0 x1 x2 x3 H,?jY->?jS):?z6 (V6 fun x0 x1 x2 x3=>σ=?dD/\?mC):=by
 rintro _ H ⟨x0,x1,x2,x3,rfl,h0⟩;exact k x0 x1 x2 x3 H h0
theorem Ac3[?j1]{p0 p1 p2:?m4}[?p](k:∀x0 x1 x2 x3 H,?jY->?pY->?p0->?jS):?z6 (V6 fun x0 x1 x2 x3=>B6 (σ=?dD) (?mC) (?BQ p1) (?BQ p2)):=by
 rintro _ H ⟨x0,x1,x2,x3,rfl,h0,h1,h2⟩;exact k x0 x1 x2 x3 H h0 h1 h2
theorem Ac2[?j1]{p0 p1 p2 p3 p4:?m4}[?p](k:∀x0 x1 x2 x3 H,?jY->?pY->?p0->?zZ p3->?zZ p4->?jS):?z6 (V6 fun x0 x1 x2 x3=>Hq (σ=?dD) (?mC) (?BQ p1) (?BQ p2) (?BQ p3) (?BQ p4)):=by
 rintro _ H ⟨x0,x1,x2,x3,rfl,h0,h1,h2,h3,h4⟩;exact k x0 x1 x2 x3 H h0 h1 h2 h3 h4
theorem Ac1[?nF]{p0 p1 p2:A0->A1->A2->A3->A4->?M}[?p](k:∀x0 x1 x2 x3 x4 H,?AX p0->?AX p1->?AX p2->let s:=(?eJ);?aO):?z6 (bB fun x0 x1 x2 x3 x4=>B6 (σ=?eJ) (?C1 p0) (?C1 p1) (?C1 p2)):=by
 rintro _ H ⟨x0,x1,x2,x3,x4,rfl,h0,h1,h2⟩;exact k x0 x1 x2 x3 x4 H h0 h1 h2
theorem Ac0[?yR]{p0 p1 p2 p3:A0->A1->A2->A3->A4->A5->?M}[?p](k:∀x0 x1 x2 x3 x4 x5 H,?zS p0->?zS p1->?zS p2->?zS p3->let s:=(?k8);?aO):?z6 (UG fun x0 x1 x2 x3 x4 x5=>Dn ?sB (?BR p0) (?BR p1) (?BR p2) (?BR p3)):=by
 rintro _ H ⟨x0,x1,x2,x3,x4,x5,rfl,h0,h1,h2,h3⟩;exact ?AR H
theorem Ab9[?fQ]{p0 p1 p2:?jB}[?p](k:∀x0 x1 x2 x3 x4 x5 x6 x7 H,?lG->?jC->?lR->?kY):?C3 (mO fun x0 x1 x2 x3 x4 x5 x6 x7=>B6 ?eU (?z3 p0) (?z3 p1) (?z3 p2)):=by
 rintro _ H ⟨x0,x1,x2,x3,x4,x5,x6,x7,rfl,h0,h1,h2⟩;exact k x0 x1 x2 x3 x4 x5 x6 x7 H h0 h1 h2
theorem Ab8[?fQ]{p0 p1 p2 p3 p4 p5 p6:?jB}[?p](k:∀x0 x1 x2 x3 x4 x5 x6 x7 H,?lG->?jC->?lR->?r9->?wR->?wG->?uH->?kY):?C3 (mO fun x0 x1 x2 x3 x4 x5 x6 x7=>Ve ?eU (?z3 p0) (?z3 p1) (?z3 p2) (?z3 p3) (?z3 p4) (?z3 p5) (?z3 p6)):=by
 rintro _ H ⟨x0,x1,x2,x3,x4,x5,x6,x7,rfl,h0,h1,h2,h3,h4,h5,h6⟩;exact k x0 x1 x2 x3 x4 x5 x6 x7 H h0 h1 h2 h3 h4 h5 h6
theorem UH[?fQ]{p0 p1 p2 p3 p4 p5 p6 p7:?jB}[?p](k:∀x0 x1 x2 x3 x4 x5 x6 x7 H,?lG->?jC->?lR->?r9->?wR->?wG->?uH->?z7 p7->?kY):?C3 (mO fun x0 x1 x2 x3 x4 x5 x6 x7=>iF ?eU (?z3 p0) (?z3 p1) (?z3 p2) (?z3 p3) (?z3 p4) (?z3 p5) (?z3 p6) (?z3 p7)):=by
 rintro _ H ⟨x0,x1,x2,x3,x4,x5,x6,x7,rfl,h0,h1,h2,h3,h4,h5,h6,h7⟩;exact k x0 x1 x2 x3 x4 x5 x6 x7 H h0 h1 h2 h3 h4 h5 h6 h7
theorem Ab7{A0 A1 A2 A3 A4 A5 A6 A7 A8:Type}{S:?AF St}{p0 p1 p2:?AF ?M}[?p](k:∀x0 x1 x2 x3 x4 x5 x6 x7 x8 H,?zQ p0->?zQ p1->?zQ p2->let s:=(?t1);?aO):?z6 (Ex9 fun x0 x1 x2 x3 x4 x5 x6 x7 x8=>B6 (σ=?t1) (?BO p0 H) (?BO p1 H) (?BO p2 H)):=by
 rintro _ H ⟨x0,x1,x2,x3,x4,x5,x6,x7,x8,rfl,h0,h1,h2⟩;exact k x0 x1 x2 x3 x4 x5 x6 x7 x8 H h0 h1 h2
theorem WE{A0 A1 A2 A3 A4 A5 A6 A7 A8 A9:Type}{S:?A7 St}{p0 p1 p2 p3:?A7 ?M}[?p](k:∀x0 x1 x2 x3 x4 x5 x6 x7 x8 x9 H,?zF p0->?zF p1->?zF p2->?zF p3->let s:=(?wI);?aO):?C3 (mJ fun x0 x1 x2 x3 x4 x5 x6 x7 x8 x9=>Dn (σ=?wI) (?z5 p0 H) (?z5 p1 H) (?z5 p2 H) (?z5 p3 H)):=by
 rintro _ H ⟨x0,x1,x2,x3,x4,x5,x6,x7,x8,x9,rfl,h0,h1,h2,h3⟩;exact k x0 x1 x2 x3 x4 x5 x6 x7 x8 x9 H h0 h1 h2 h3
theorem Hr{S:St}[?p]{H0:Hp}(k:let s:=S;G s H0):?z6 (σ=S/\H0=H):=by
 rintro _ _ ⟨rfl,rfl⟩;exact k
theorem uK[?aF][?p]{H0:Hp}(k:∀x0,?l9):?z6 (Er fun x0=>?eQ/\H0=H):=by
 rintro _ _ ⟨x0,rfl,rfl⟩;exact k x0
theorem mR[?aF]{p0:?c8}[?p]{H0:Hp}(k:∀x0,?v8->?l9):?z6 (Er fun x0=>Fc ?cL (H0=H) ?c3):=by
 rintro _ _ ⟨x0,rfl,rfl,h0⟩;exact k x0 h0
theorem Ad0[?aF]{p0 p1:?c8}[?p]{H0:Hp}(k:∀x0,?v8->p1  x0 H0->?l9):?z6 (Er fun x0=>B6 ?cL (H0=H) ?c3 ?d4):=by
 rintro _ _ ⟨x0,rfl,rfl,h0,h1⟩;exact k x0 h0 h1
theorem ex2{A0 A1:Type}{p:?e8}{G:Prop}(k:∀x0 x1,p x0 x1->G)(h:∃x0 x1,p x0 x1):G:=h.elim fun x0 h=>h.elim fun x1 h=>k x0 x1 h
theorem Bc8{p0 p1 p2 G:Prop}(k:p0->p1->p2->G)(h:p0/\p1/\p2):G:=k h.1 h.2.1 h.2.2
section
variable{g:TG}{x:V}{t1 t2 t3 t4 t5 t6 t7 t8 t9 MJ uN zQ t13 t14:TS}{D:Ends}{σ:St}{H:Hp}
theorem sW{tc:St->?AB Hp (?xW)}{k:?xW}(h:let k':=k;tc σ H k'):tc σ H k:=h
theorem letG1(h:let D':=D;?AY D'):?AY D:=h
theorem let2(h:let D':=D;let u2:TS:=t2;?wJ):?BU t2 D:=h
theorem letG2(h:let D':=D;let u2:TS:=t2;?o8):?zD t2 D:=h
theorem let3(h:let D':=D;let u3:TS:=t3;?q6):?AS t3 D:=h
theorem letG3(h:let D':=D;let u3:TS:=t3;?sJ):?zD (Au t2 t3) D:=h
theorem let4(h:let D':=D;let u4:TS:=t4;?sO):?AS (Au t3 t4) D:=h
theorem letG4(h:let D':=D;let u4:TS:=t4;?uC):?zD (Au t2 (Au t3 t4)) D:=h
theorem let5(h:let D':=D;let u5:TS:=t5;?q1):?AS (Au t3 (Au t4 t5)) D:=h
theorem letG5(h:let D':=D;let u5:TS:=t5;?rO):?BN (Au t2 (Au t3 (Au t4 t5))):=h
theorem let6(h:let D':=D;let u6:TS:=t6;?o3):?BU (?z4 t6) D:=h
theorem letG6(h:let D':=D;let u6:TS:=t6;?u8):?BN (?z4 t6):=h
theorem let7(h:let D':=D;let u7:TS:=t7;?vW):?BU (?z4 (Au t6 t7)) D:=h
theorem letG7(h:let D':=D;let u7:TS:=t7;?w5):?BN (?z4 (Au t6 t7)):=h
theorem let8(h:let D':=D;let u8:TS:=t8;?uO):?BU (?z4 (?C8 t8)) D:=h
theorem letG8(h:let D':=D;let u8:TS:=t8;?w4):?BN (?z4 (?C8 t8)):=h
theorem let9(h:let D':=D;let u9:TS:=t9;?t3):?BM t9:=h
theorem letG9(h:let D':=D;let u9:TS:=t9;?uV):?BN (?z4 (?C8 (Au t8 t9))):=h
theorem let10(h:let D':=D;let mS:TS:=MJ;?qY):?BM (Au t9 MJ):=h
theorem letG10(h:let D':=D;let mS:TS:=MJ;let u9:TS:=?tW;?uV):?BN (?z4 (?C8 (Au t8 (Au t9 MJ)))):=h
theorem let11(h:let D':=D;let wI:TS:=uN;?t8):?BM (Au t9 (Au MJ uN)):=h
theorem let12(h:let D':=D;let u12:TS:=zQ;?p3):?BM (?C7 zQ):=h
theorem let13(h:let D':=D;let u13:TS:=t13;?qK):?BM (?C7 (Au zQ t13)):=h
theorem let14(h:let D':=D;let u14:TS:=t14;let u13:TS:=Au t13 u14;?qK):?BM (?C7 (Au zQ (Au t13 t14))):=h
universe e9
universe Hb
local macro_rules|`(tactic|infer_instance)=>`(tactic|first|(refine Hb.let14 ?_;intro _ _ _ _ _ _ _ _ _ _ _ _ _ _)|(refine Hb.let13 ?_;intro _ _ _ _ _ _ _ _ _ _ _ _ _)|(refine Hb.let12 ?_;intro _ _ _ _ _ _ _ _ _ _ _ _)|(refine Hb.let11 ?_;intro _ _ _ _ _ _ _ _ _ _ _)|(refine Hb.let10 ?_;intro _ _ _ _ _ _ _ _ _ _)|(refine Hb.let9 ?_;intro _ _ _ _ _ _ _ _ _)|(refine Hb.let8 ?_;intro _ _ _ _ _ _ _ _)|(refine Hb.let7 ?_;intro _ _ _ _ _ _ _)|(refine Hb.let6 ?_;intro _ _ _ _ _ _)|(refine Hb.let5 ?_;intro _ _ _ _ _)|(refine Hb.let4 ?_;intro _ _ _ _)|(refine Hb.let3 ?_;intro _ _ _)|(refine Hb.let2 ?_;intro _ _))
local macro_rules|`(tactic|and_intros)=>`(tactic|first|(refine Hb.letG10 ?_;intro _ _ _ _ _ _ _ _ _ _)|(refine Hb.letG9 ?_;intro _ _ _ _ _ _ _ _ _)|(refine Hb.letG8 ?_;intro _ _ _ _ _ _ _ _)|(refine Hb.letG7 ?_;intro _ _ _ _ _ _ _)|(refine Hb.letG6 ?_;intro _ _ _ _ _ _)|(refine Hb.letG5 ?_;intro _ _ _ _ _)|(refine Hb.letG4 ?_;intro _ _ _ _)|(refine Hb.letG3 ?_;intro _ _ _)|(refine Hb.letG2 ?_;intro _ _)|(refine Hb.letG1 ?_;intro _))
namespace Hb
open PySem L2
theorem oO[?aF]{p0:A0->Prop}[?A](k:∀x0,p0 x0->?pQ):?z9 (Er fun x0=>?eQ/\p0 x0):=by
 rintro _ ⟨x0,rfl,h0⟩;exact k x0 h0
theorem Hv[?aF]{p0 p1 p2:Prop}[?A](k:p0->p1->p2->?qS):?z9 (B6 (p0) (p1) (p2) (Er fun x0=>?eQ)):=by
 rintro _ ⟨h0,h1,h2,x0,rfl⟩;exact k h0 h1 h2 x0
theorem oM[?aF]{p0 p1 p2 p3:Prop}[?A](k:p0->p1->p2->p3->?qS):?z9 (Dn (p0) (p1) (p2) (p3) (Er fun x0=>?eQ)):=by
 rintro _ ⟨h0,h1,h2,h3,x0,rfl⟩;exact k h0 h1 h2 h3 x0
theorem ON[?aE]{p0:?e8}[?A](k:∀x0 x1,?bB->?eM):?z9 (Jj fun x0 x1=>?fH/\?bB):=by
 rintro _ ⟨x0,x1,rfl,h0⟩;exact k x0 x1 h0
theorem vF[?aE]{p0 p1:?e8}[?A](k:∀x0 x1,?bB->?cU->?eM):?z9 (Jj fun x0 x1=>Fc ?c6 (?bB) (?cU)):=by
 rintro _ ⟨x0,x1,rfl,h0,h1⟩;exact k x0 x1 h0 h1
theorem Vs[?aE]{p0 p1 p2:?e8}[?A](k:∀x0 x1,?bB->?cU->?iR->?eM):?z9 (Jj fun x0 x1=>B6 ?c6 (?bB) (?cU) (?iR)):=by
 rintro _ ⟨x0,x1,rfl,h0,h1,h2⟩;exact k x0 x1 h0 h1 h2
theorem vA[?aE]{p0 p1 p2:Prop}[?A](k:p0->p1->p2->?p8):?z9 (B6 (p0) (p1) (p2) (Jj fun x0 x1=>?fH)):=by
 rintro _ ⟨h0,h1,h2,x0,x1,rfl⟩;exact k h0 h1 h2 x0 x1
theorem VE[?aE]{p0 p1 p2 p3:?e8}[?A](k:∀x0 x1,?bB->?cU->?iR->?r2->?eM):?z9 (Jj fun x0 x1=>Dn ?c6 (?bB) (?cU) (?iR) (?r2)):=by
 rintro _ ⟨x0,x1,rfl,h0,h1,h2,h3⟩;exact k x0 x1 h0 h1 h2 h3
theorem UZ[?aE]{p0 p1 p2 p3:Prop}[?A](k:p0->p1->p2->p3->?p8):?z9 (Dn (p0) (p1) (p2) (p3) (Jj fun x0 x1=>?fH)):=by
 rintro _ ⟨h0,h1,h2,h3,x0,x1,rfl⟩;exact k h0 h1 h2 h3 x0 x1
theorem vE[?bP]{p0:?hC}[?A](k:∀x0 x1 x2,?bC->?g9):?z9 (Og fun x0 x1 x2=>σ=?h8/\?bC):=by
 rintro _ ⟨x0,x1,x2,rfl,h0⟩;exact k x0 x1 x2 h0
theorem VD[?bP]{p0 p1:?hC}[?A](k:∀x0 x1 x2,?bC->?cX->?g9):?z9 (Og fun x0 x1 x2=>Fc ?bZ (?bC) (?cX)):=by
 rintro _ ⟨x0,x1,x2,rfl,h0,h1⟩;exact k x0 x1 x2 h0 h1
theorem jC[?bP]{p0 p1 p2:?hC}[?A](k:∀x0 x1 x2,?bC->?cX->?iB->?g9):?z9 (Og fun x0 x1 x2=>B6 ?bZ (?bC) (?cX) (?iB)):=by
 rintro _ ⟨x0,x1,x2,rfl,h0,h1,h2⟩;exact k x0 x1 x2 h0 h1 h2
theorem aJ[?bP]{p0 p1 p2 p3 p4:?hC}[?A](k:∀x0 x1 x2,?bC->?cX->?iB->?oC->?vR->?g9):?z9 (Og fun x0 x1 x2=>Hq ?bZ (?bC) (?cX) (?iB) (?oC) (?vR)):=by
 rintro _ ⟨x0,x1,x2,rfl,h0,h1,h2,h3,h4⟩;exact k x0 x1 x2 h0 h1 h2 h3 h4
theorem Vr[?j1]{p0 p1 p2:A0->A1->?AB A2 A3}[?A](k:∀x0 x1 x2 x3,?uA->?xD->?C6 ?s0 ?dD):?z9 (V6 fun x0 x1 x2 x3=>B6 (σ=?dD) (?uA) (?xD) (?s0)):=by
 rintro _ ⟨x0,x1,x2,x3,rfl,h0,h1,h2⟩;exact k x0 x1 x2 x3 h0 h1 h2
theorem vD[?nF]{p0 p1 p2:A0->A1->A2->?AB A3 A4}[?A](k:∀x0 x1 x2 x3 x4,?gQ->?i9->?i2->?wY):?z9 (bB fun x0 x1 x2 x3 x4=>B6 (σ=?eJ) (?gQ) (?i9) (?i2)):=by
 rintro _ ⟨x0,x1,x2,x3,x4,rfl,h0,h1,h2⟩;exact k x0 x1 x2 x3 x4 h0 h1 h2
theorem VC[?nF]{p0 p1 p2 p3 p4 p5:A0->A1->A2->?AB A3 A4}[?A](k:∀x0 x1 x2 x3 x4,?gQ->?i9->?i2->?p2->?tZ->?sX->?wY):?z9 (bB fun x0 x1 x2 x3 x4=>Mn (σ=?eJ) (?gQ) (?i9) (?i2) (?p2) (?tZ) (?sX)):=by
 rintro _ ⟨x0,x1,x2,x3,x4,rfl,h0,h1,h2,h3,h4,h5⟩;exact k x0 x1 x2 x3 x4 h0 h1 h2 h3 h4 h5
theorem vC[?yR]{p0 p1 p2 p3:A0->A1->A2->A3->?AB A4 A5}[?A](k:∀x0 x1 x2 x3 x4 x5,?vP->?rB->?vB->?C6 ?vD ?k8):?z9 (UG fun x0 x1 x2 x3 x4 x5=>Dn ?sB (?vP) (?rB) (?vB) (?vD)):=by
 rintro _ ⟨x0,x1,x2,x3,x4,x5,rfl,h0,h1,h2,h3⟩;exact k x0 x1 x2 x3 x4 x5 h0 h1 h2 h3
theorem VB{A0 A1 A2 A3 A4 A5 A6:Type}{S:A0->A1->A2->A3->A4->A5->A6->St}{p0 p1 p2 p3:A0->A1->A2->A3->A4->?AB A5 A6}[?A](k:∀x0 x1 x2 x3 x4 x5 x6,?tP->?tV->?vA->?C6 ?rA ?q2):?z9 (zN fun x0 x1 x2 x3 x4 x5 x6=>Dn (σ=?q2) (?tP) (?tV) (?vA) (?rA)):=by
 rintro _ ⟨x0,x1,x2,x3,x4,x5,x6,rfl,h0,h1,h2,h3⟩;exact ?AR x6
theorem vB[?fQ]{p0 p1 p2 p3:?BZ A7}[?A](k:∀x0 x1 x2 x3 x4 x5 x6 x7,?i6->?i8->?g5->?iP->?qC):?z9 (mO fun x0 x1 x2 x3 x4 x5 x6 x7=>Dn ?eU (?i6) (?i8) (?g5) (?iP)):=by
 rintro _ ⟨x0,x1,x2,x3,x4,x5,x6,x7,rfl,h0,h1,h2,h3⟩;exact k x0 x1 x2 x3 x4 x5 x6 x7 h0 h1 h2 h3
theorem VA[?fQ]{p0 p1 p2 p3 p4 p5 p6:?BZ A7}[?A](k:∀x0 x1 x2 x3 x4 x5 x6 x7,?i6->?i8->?g5->?iP->?uI->?r8->?v5->?qC):?z9 (mO fun x0 x1 x2 x3 x4 x5 x6 x7=>Ve ?eU (?i6) (?i8) (?g5) (?iP) (?uI) (?r8) (?v5)):=by
 rintro _ ⟨x0,x1,x2,x3,x4,x5,x6,x7,rfl,h0,h1,h2,h3,h4,h5,h6⟩;exact k x0 x1 x2 x3 x4 x5 x6 x7 h0 h1 h2 h3 h4 h5 h6
theorem OO{A0 A1 A2 A3 A4 A5 A6 A7 A8 A9 JY:Type}{S:A0->A1->A2->A3->A4->A5->A6->A7->A8->A9->JY->St}{p0 p1 p2 p3 p4 p5 p6 p7 p8:A0->A1->A2->A3->A4->A5->A6->A7->A8->?AB A9 JY}[?A](k:∀x0 x1 x2 x3 x4 x5 x6 x7 x8 x9 Q6,?r5->?sF->?nZ->?uG->?uU->?p9->?pX->?wP->?C6 ?xE ?qP):∀σ,(fJ fun x0 x1 x2 x3 x4 x5 x6 x7 x8 x9 Q6=>jY (σ=?qP) (?r5) (?sF) (?nZ) (?uG) (?uU) (?p9) (?pX) (?wP) (?xE))->?y:=by
 rintro _ ⟨x0,x1,x2,x3,x4,x5,x6,x7,x8,x9,Q6,rfl,h0,h1,h2,h3,h4,h5,h6,h7,h8⟩;exact k x0 x1 x2 x3 x4 x5 x6 x7 x8 x9 Q6 h0 h1 h2 h3 h4 h5 h6 h7 h8
universe Hb
namespace L2
open PySem PySem.Spec PyProof.Rows
section
variable[?nE]{base:Heap}{ds:?j0}
universe e9
universe L2
namespace L2
open PySem PySem.Spec PyProof.Rows PySem.W
section
variable[?yW]{sp:Sp}{m:Str}{pos apos:Pos}{e o:Expr}[?cO]{ta:TE}{t:TA}
universe e9
section
variable{P:Program}{w:World}{K:Frag}{mg:?kG}{base:Heap}{ds:?j0}
universe e9
section
variable[?yW]{dvs:?r}{sp:Sp}{m x:Str}{p pos apos:Pos}{e o:Expr}[?cO]{ta:TE}{t:TA}
universe e9
universe L2
namespace L2
open PySem PySem.Spec PyProof.Rows
noncomputable def C6[?v](n:Str)(st:Stmt):Prop:=∃(f:Addr) (fd:FuncData),W.nsIn K ?tQ n=?c (?c (?j f))/\?v6
noncomputable def Rv[?v](C:Addr)(n q:Str)(st:Stmt):Prop:=∃(f:Addr) (fd:FuncData),W.findIn K ?m7 n=?c (?c (?j f))/\W.isFn K (?j f)=true/\?s2
noncomputable def BA(x q:Str)(st:Stmt)(ps:?h):Prop:=∀(kV doc pm:Value) (an:OAddr) (Ds ct:Value) (us:?j0),us.length=ps.length->bindArgs (W.fnOf x q (I0 st) (Gg st) (Av st) ?W kV doc pm an Ds ct) ⟨us,[]⟩=pure (ps.zip us)
section
variable[?nE]{base h:Heap}
theorem Bq(X:K.In h)(G:h.Ns ?tQ mg){n:Str}[?nK](d:C6 K n st)(ok:∀{f fd},?v6->?n8)(hb:BA n n st ps):Has P w K mg ?dA n ps k sp:=by
 obtain⟨f,fd,a,F⟩:=d;exact⟨_,_,qu3 X G a,F.kp,?k6,ok F⟩
theorem Iz{C:Addr}{n q:Str}[?nK](d:Rv K C n q st)(ok:∀{f fd},?s2->?n8)(hb:BA n q st ps):Kg P w K mg ?dA C n ps k sp:=by
 obtain⟨f,fd,a,b,F⟩:=d;exact⟨_,_,⟨a,b,F.kp⟩,?k6,ok F⟩
theorem CB{C:Addr}{q:Str}[?nK](m:PySem.W.makesIn K C=true)(kc:W.keepIn K ?m7=true)(d:Rv K C ?n9 q st)(ok:∀{f fd},Ey K ?n9 q st f fd->?n8)(hb:BA ?n9 q st ps):FI P w K mg ?dA C ps k sp:=by
 obtain⟨f,fd,a,b,F⟩:=d;exact⟨_,_,⟨m,a,b,kc⟩,?k6,ok F⟩
universe e9
universe L2
namespace Hb
open PySem L2
noncomputable def top(i:Nat):Stmt:=PySem.Challenge.pw_holebook_k84_whole_counts_by_tables.main.body.getD i (.Pass ⟨0,0,0,0⟩)
structure Fk[?v](mg:?kG)(Ag Ad Ah Aw:Addr):Prop where
 m_Lines:mg "Lines"=?c (?j Ag)
 cl_Lines:Cls K Ag
 na_Lines_rows:Dm K Ag "rows"
 na_Lines_backs:Dm K Ag "backs"
 m_Stairs:mg "Stairs"=?c (?j Ad)
 cl_Stairs:Cls K Ad
 na_Stairs_rows:Dm K Ad "rows"
 na_Stairs_backs:Dm K Ad "backs"
 na_Stairs_starts:Dm K Ad "starts"
 m_Work:mg "Work"=?c (?j Ah)
 cl_Work:Cls K Ah
 na_Work_table:Dm K Ah "table"
 na_Work_width:Dm K Ah ?kM
 na_Work_left:Dm K Ah "left"
 na_Work_right:Dm K Ah "right"
 na_Work_numbers:Dm K Ah "numbers"
 m_Book:mg "Book"=?c (?j Aw)
 cl_Book:Cls K Aw
 na_Book_pieces:Dm K Aw ?qX
 na_Book_levels:Dm K Aw ?xX
 na_Book_lifts:Dm K Aw "lifts"
 x_GAPS:∃a,?AJ "GAPS" [32,16,8,4,2]
 x_FACE_COUNTS:∃a,?AJ "FACE_COUNTS" [0,2,3,4]
 x_MOST_ROWS:∃t,mg "MOST_ROWS"=?c (?d 40 t)
 x_LEVELS:∃t,mg "LEVELS"=?c (?d 4 t)
 x_MOST_PIECES:∃t,mg "MOST_PIECES"=?c (?d 40 t)
 n_isinstance:?zO "isinstance"
 n_int:?zO "int"
 n_bool:?zO ?mJ
 n_tuple:?zO "tuple"
 n_zip:?zO "zip"
 n_max:?zO "max"
 n_len:?zO "len"
 n_all:?zO "all"
 n_range:?zO "range"
 n_dict:?zO "dict"
 n_any:?zO "any"
 n_list:?zO "list"
 n_enumerate:?zO ?bE
 n_min:?zO "min"
noncomputable def Zf[?nO]:?e:=(ns.drop (?vY)).take (HT.sIx ?n1 ?n1 hi-?vY)
theorem Tq[?nO]:Cf ?d0 lo hi=(?oR).map ?w:=by
 unfold Cf Zf;rw[qa2,qo8,qo9]
theorem Tr[?nO]:?AV ?oR ns.length:=by
 unfold Zf;rw[qc1,qg6];omega
theorem oB:([?dO]:?h).Nodup:=?i
theorem uY:(?uY:?h).Nodup:=?i
theorem Ai0:(["face",?gN,"level"]:?h).Nodup:=?i
theorem UX:([?d6,?dO,?gN,"k"]:?h).Nodup:=?i
theorem Ah9:(["k",?gN,"thing"]:?h).Nodup:=?i
theorem uX:([?d6,"old",?dO]:?h).Nodup:=?i
theorem UW:([?d6,"piece","k"]:?h).Nodup:=?i
theorem NX:([?gF,?kM]:?h).Nodup:=?i
theorem Ah8:([?gF,?lF,?kM]:?h).Nodup:=?i
theorem XT:(["j","table"]:?h).Nodup:=?i
theorem xT:([?gF,"j"]:?h).Nodup:=?i
theorem XS:(["i","size"]:?h).Nodup:=?i
theorem xS:(["j","i"]:?h).Nodup:=?i
theorem OA:(["left","right","a","b"]:?h).Nodup:=?i
theorem XR:([?d6,"below",?gN]:?h).Nodup:=?i
theorem xR:([?d6,"chain"]:?h).Nodup:=?i
theorem oA:([?d6,?dO]:?h).Nodup:=?i
theorem NZ:([?gF,"paper"]:?h).Nodup:=?i
theorem nZ:(["j",?dO,"i"]:?h).Nodup:=?i
theorem XQ:(["parts"]:?h).Nodup:=?i
theorem NY:(["hole"]:?h).Nodup:=?i
theorem xQ:(["part"]:?h).Nodup:=?i
theorem xP:(["piece"]:?h).Nodup:=?i
theorem XO:(["_law_letter"]:?h).Nodup:=?i
theorem xO:([?nX,?w0]:?h).Nodup:=?i
theorem XN:([?w0,"_law_family",?uZ]:?h).Nodup:=?i
theorem xN:([?pJ,?uZ]:?h).Nodup:=?i
theorem XM:(["_law_piece",?xA]:?h).Nodup:=?i
theorem xM:([?pJ,?xA]:?h).Nodup:=?i
theorem xK:(["_law_number"]:?h).Nodup:=?i
theorem xJ:([?oS,?jO,?nX,"_law_chosen",?oN]:?h).Nodup:=?i
theorem XI:([?oS,?jO,"_law_need"]:?h).Nodup:=?i
theorem nY:([?oN,?jO]:?h).Nodup:=?i
section
variable[?nE]{base:Heap}{Ag Ad Ah Aw:Addr}
noncomputable abbrev Rh:Stmt:=top 2
theorem dO:FnScope ["thing"] ["thing"] (Av Rh):=Bg
theorem DX{f:Addr}{fd:FuncData}(F:Ey K ?x9 ?x9 Rh f fd)(T:?tN) :?B9 ["thing"] Jc:=by
 refine F.okZ dO ?pA;obtain⟨x,d,rfl,hx,k⟩:=h;refine⟨_,(Ai (Bd (Mb (?A8 (Iw (v:=.ty "int") rfl T.n_int boot_intT rfl)) (Nv (nJ (?A8 (Iw (v:=.ty ?mJ) rfl T.n_bool Zr rfl))))))),?_⟩;refine(?B4 ?g rfl);refine ite2 (fun e=>?_) (fun e=>?_)
 . refine(?B4 ?t (?g rfl));have e2:Km d=!JD ?mJ d:=by unfold Km;rw[e];rfl
   rw[e2]at k;exact k
 . have e2:Km d=false:=by unfold Km;simp[e]
   rw[e2]at k;exact k
noncomputable abbrev Ic:Stmt:=top 4
theorem Cu:FnScope ["one",?lF,"last","now",?x6,"rest"] ?uF (Av Ic):=Bg
theorem S0{f:Addr}{fd:FuncData}(F:Ey K ?w8 ?w8 Ic f fd)(T:?tN) :?B9 ?uF Vn:=by
 refine F.okZ Cu ?pA;obtain⟨n,p,rfl,hA,hB,lA,lB,k⟩:=h
 refine⟨_,(Ae (?A4 2 (?C5 ?eG))
  (Ae (?A4 3 (?C5 (pv 1)))
  (Ae (Su qb9 (Be Ln (?zE ?hD) Aj (Bm _)) (Ae (Ap (i:=4) ?dG (Bf K0 (?zE ?dL) (?zE ?hD)))
  (Ae (?A4 5 (?BX (B7 (N':=?uY) (cap:=[none,none,?c 4]) ?dT (by kernel_rfl) (RO (K:=K) ?dT T.n_zip (Aa ?dL (Aa ?hD Ac))) (?C9 (Eo (K:=K) (n:=2) ?dT (Br (As (i:=0) uY) (Br (As (i:=1) uY) Em)))) (fun _ _ _ _=>Ca) (?C9 (Bf G7 ?eG (Bf op_mulX ?dL (pv 1)))))))
  (Ae (?A4 2 ?hD)
  (Ai (?A4 3 (pv 5)))))))
  (Ae (B8 (Be Sz (?zE ?dL) Aj (Bm _)) (Ai (Bd (?BX (B7 (N':=[?dO]) (cap:=[none]) ?dT (by kernel_rfl) (Ta (K:=K) ?dL) (?C9 (As (i:=0) oB)) (fun _ _ _ _=>Ca) (?C9 (My Hx ?eG)))))) Bo)
  (Ai (Bd ?dL)))))),?_⟩
 infer_instance
 refine⟨_,rfl,Bs ?L,fun L0 hL0=>?_⟩;have s0:?E H (?zV 0):=?cC hL0;refine⟨_,rfl,Bs ?L,fun N0 hN0=>?_⟩;have s1:?E (?zV 0) (?v9):=?cC hN0;refine D7 (fun σ' H'=>σ'=[iS n,iS p,rS L0,rS N0,none,none]/\H'=?v9) ?_ fun Ju=>Ju _ _ ?u9;rintro _ _ ⟨rfl,rfl⟩;refine qw7 (fun σ' H'=>Ex9 fun ?l6 (a x y u v:Int) ?lM=>B6 ?tD (?B) (Ed K H' L ?eO) (?BJ a 0)) (fun key=>?_) ?_
 . refine⟨fun m σ G=>mJ fun ?l6 (a x y b u v:Int) ?lM=>Ve (σ=?sE) (?E H G) (Ed K G L ?eO) (Ed K G N ?mA) (?BJ a b) (a.natAbs<L9) (b.natAbs<L9) (m=b.natAbs),⟨_,L0,N0,n,1,0,p,0,1,?aR,?aR,rfl,s0.trans s1,.of (s1 _ _ Ab),?jL,Lat.EuI.start hA hB,lA,lB,rfl⟩,?_⟩;rintro m σ G Di;refine sW ?_;intro _;obtain⟨L,N,a,x,y,b,u,v,o4,o5,rfl,s2,hL,hN,hE,la,lb,rfl⟩:=Di;refine⟨_,rfl,N,_,_,_,rfl,rfl,hN,rfl,rfl,_,rfl,?_⟩;refine ?xC
   . have hb0:¬b=0:=?fP
     obtain⟨hE2,hlt⟩:=hE.step hA hb0;obtain⟨_,_,_,_,lu,lv⟩:=hE.all hA hB
     have lq:?uX<L9:=by
      refine qc0 ?_ la;have h3:(?T*b).natAbs<=a.natAbs+(a-?T*b).natAbs:=O9m
      rw[qb2]at h3;have h4:0<b.natAbs:=Int.natAbs_pos.mpr hb0;refine qh1 fun h5=>?_;have h6:=qb5 b.natAbs (show a.natAbs+1<=?uX from h5);rw[qf8,qf6]at h6;have h7:=qe2 a.natAbs h4;omega
     have ok:∀z:Int,z.natAbs<L9->?eX (?T) z:=fun z hz=>bU lq hz;refine⟨fun σ' G'=>mJ fun ?l6 (a' x y b' u v:Int) ?lM=>Ve ?tD (?o0) (Ed K G' L [?d a',?d x,?d y]) (Ed K G' N [?d b',?d u,?d v]) (?BJ a' b') (a'.natAbs<L9) (b'.natAbs<L9) (b'.natAbs<b.natAbs),?_,?_⟩
     . rintro σ' G' ⟨L',N',a',x',y',b',u',v',o4',o5',rfl,q1,q2,q3,q4,q5,q6,q7⟩;exact⟨b'.natAbs,q7,L',N',a',x',y',b',u',v',o4',o5',rfl,q1,q2,q3,q4,q5,q6,rfl⟩
     refine⟨_,rfl,L,_,_,_,rfl,rfl,hL,rfl,_,rfl,N,_,_,_,rfl,rfl,hN,rfl,_,_,rfl,rfl,Vd.of9 hb0 lb,?_⟩;refine⟨_,rfl,_,rfl,L,N,rfl,?vJ,⟨_,hN⟩,?rJ⟩
     have gv:∀(i:Nat) (e f:V),?BK ?eO e->?BK ?mA f->∃e' f':Int,e=?d e'/\f=?d f'/\?eX (?T) f'/\i<3 ∧
      ?BK ?hW (?d (e'-?T*f')):=by
      intro i e f he hf
      match i,he,hf with
      | 0,he,hf=>cases he;cases hf;exact⟨a,b,rfl,rfl,ok _ lb,?aL,rfl⟩
      | 1,he,hf=>cases he;cases hf;exact⟨x,u,rfl,rfl,?rH,?aL,rfl⟩
      | 2,he,hf=>cases he;cases hf;exact⟨y,v,rfl,rfl,?rH,?aL,rfl⟩
      | i+3,he,hf=>simp at he
     refine HN (K:=K) (a:=L) (b:=N) (xs:=?eO) (ys:=?mA) (n:=3) ?u9 (fun i zs τ G1=>B6 (?E G G1) (G1 D=?zG zs) (zs=(?hW:?r).take i) (Jj fun o1 o2=>τ=[o1,o2,?c (?d (?T))]))
      ⟨?cC hD,Ab,rfl,?aR,?aR,rfl⟩ (fun i zs τ G1 _ hz=>by obtain⟨s3,_⟩:=hz;exact⟨s3.seqT hL,s3.seqT hN⟩) ?_ ?_
     . rintro i e f zs τ G1 pr he hf Di hpr;revert τ;refine vA ?_;intro s3 aO hzs o1 o2 Fd;obtain⟨e',f',rfl,rfl,hok,VH,hnext⟩:=gv i e f he hf;have sp:?E G1 (upd G1 pr (?N [?d e',?d f'])):=?cC hpr;refine⟨pr,_,rfl,?jL,rfl,_,_,rfl,_,_,rfl,rfl,?_⟩;refine⟨_,rfl,_,rfl,_,rfl,_,_,rfl,rfl,hok,_,_,rfl,rfl,?_⟩;refine⟨sp _ _ aO,?vX,(?w7 sp).turn hD,Ab,?_,_,_,rfl⟩;rw[qf5,hnext,hzs];rfl
     . ext y9;have yH:zs=?hW:=hzs;have hT2:Ed K (upd G1 T1 (?N zs)) T1 ?hW:=?r7
       exact⟨_,rfl,_,rfl,N,T1,b,u,v,a-?T*b,x-?T*u,y-?T*v,_,_,rfl,(s2.trans s3).trans s4,(?w7 s4).seqT hN,hT2,hE2,lb,qt8 hlt lb,hlt⟩
   . have hb0:b=0:=?fP
     subst hb0;exact key _ _ ⟨L,N,a,x,y,u,v,o4,o5,rfl,s2,hL,hE⟩
 refine Ab7 fun L N a x y u v o4 o5 G s2 hL hE=>?_;intro sq;obtain⟨e1,e2,e3⟩:=hE.last hA hB;refine⟨_,rfl,L,_,_,_,rfl,rfl,hL,rfl,_,_,rfl,rfl,_,rfl,?_⟩;refine ?xC
 . have ha:a<0:=?fP
   refine⟨_,rfl,L,rfl,?vJ,?rJ⟩
   let Pq1:Nat->?r->?hV:=fun i zs τ G1=>B6 (?E G G1) (G1 D=?zG zs) (zs=(?jF:?r).take i) (Er fun o1=>τ=[o1])
   refine Qd (K:=K) (a:=L) (xs:=?eO) Pq1
    ⟨?cC hD,Ab,rfl,?aR,rfl⟩ (fun i zs τ G1 _ hz=>by obtain⟨s3,_⟩:=hz;exact s3.seqT hL) ?_ ?_
   . rintro i e zs τ G1 he Di;revert τ;refine Hv ?_;intro s3 aO hzs o1 Fd
     have gv:∃e':Int,e=?d e'/\i<3/\?BK ?jF (?d (-e')):=by
      match i,he with
      | 0,he=>cases he;exact(?BD a)
      | 1,he=>cases he;exact(?BD x)
      | 2,he=>cases he;exact(?BD y)
      | i+3,he=>simp at he
     obtain⟨e',rfl,VH,hnext⟩:=gv;refine⟨_,rfl,_,rfl,aO,?vX,s3.turn hD,Ab,?_,_,rfl⟩;rw[qf5,hnext,hzs];rfl
   . ext y9;have yH:zs=?jF:=hzs;exact k T1 (-a) (-x) (-y) _ ((s2.trans s3).trans s4) (?r7) (e2 ha)
 . have ha:¬a<0:=?fP
   exact⟨_,rfl,k L a x y G s2 hL (e1 O9m)⟩
end
mutual
#check(4,[?a,?b,some,.int,Same,(?f0),.lst,(pv 0),base,none,(pv 1),Same.new,.ref,(pv 2),fun Ds A outer s H vs Q E hr h=>?_,F.okZ,FnScope,∀(T:Fk K mg Ag Ad Ah Aw),a,∀{f:Addr}{fd:FuncData},a,.inl,V.int,(Bm _),(fun _ _=>rfl),(pv 3),.tup,.(by simpa using this),.inr,.(by ext C),.(by simpa using h1),rS a,(by ext G),.(by infer_instance),.(by kernel_rfl),Nat->?aZ->St->Hp->Prop,(Ba (K:=K)),Reps.same,(pv 4),.(by and_intros),Bs (?bJ),(fun _ _ _ _=>Ca),(fun key=>?_),(t:Int),fun D hD=>?_,Reps,hc.1,putF,.(by decide +kernel),.ins,(Aa ?h Ac),decide,s2.trans,.of Ab,iS fam,?c v,qa9 _,(pv 5),(Bi (K:=K)),.(by refine ?aN ?hV ?hV),.(by simp;omega),T.n_range,(0:Int),"number",(?y []),?l hD,if_neg,?a8+?bL,.(by refine⟨_,rfl,rfl,_,rfl,?_⟩),?c3 O9m,(-(B / g)),(?zX ?n),if_pos,(Aa ?k Ac),.(by refine⟨_,rfl,_,_,rfl,rfl,_,rfl,?_⟩),Kp.upd,"table",ite2,rS L,.(by ext aV),List Int,Cr.nd,s1.seq,Option V,c%1000000%4,.(by simpa using h2),xs.length,"row",(?cU),List V,rS p,(i+1),Ch.nd,B9.nd,?l hp,?d i,as.map ?c2,SameX,(pv 6),rS D,(?zB ?W),"_law_shape",(?e H H2),for_list,Nat->St->Hp->Prop,"width",(?x4 Bb ?h),(H1 D=?cV),TI.mk,.(by simp),(Ax (K:=K)),(i:Int),?cX s2,T.n_len,xs.getD,Ek.nd,(?cT),hc.2.2,(?x4 B5 ?h),(?g []),(E8 Ac),(?e H H1),(?xR rfl),Ce.nd,[?eZ,?bZ,?fG],"rows","place",hc.2.1,V.ref,small,?aI rfl,"_law_family",rS l,(upd H2 R1 (?g (lu++ru))),Ay w fam,qa0 hi,.(by ((repeat (first | rw[At,?c4] | ext nU))<;>first | rfl | assumption)),.(by have:=?e1),.(by simpa using hx.symm),.(by rw[e2]at k;exact k),T.n_list,"_law_k",(w.length:Int),Dy.nd,(?kG,Lat.one),?bI ?_,H=H',"shape","_law_cell",(?e H G),absurd,(?A6 ?k Aj),Dc ws ?iF (?jK m),(?e H H'),SameX.upd,.(by decide),A / g,?wO ys,"other",s1.trans,cK ms,Df.nd,(pv 8),TI.sq,"chain","_law_word",Kp.of,?t hq,s1 _ _ xb.2.1,iS letters,fun a ha=>?_,.(by rintro i σ H2 hi Di),"_law_cells",?c3 (by rw[qa2];omega),(o:?aT),Fb ws (?lS j),?zI ?hX,(Aa ?h ?aJ),(Cd _ _ _),ps.take,?wO ws,LT.get,ws.map tI,"list",?a8+(j:Int),(os.map ?u),Rep.same,fs.map ?u,?bO i.toNat [],"one",(M3 (K:=K)),(Aa ?x Ac),(pv 7),rS b,(pv 9),s2.seq,(Bf Cl ?a3 Aj),.(by ext cB;ext z),List.replicate,(?iP hx).1,.(by refine On ?eF ?_),.(by revert σ;refine Vs ?_),.(by revert σ;refine aJ ?_),.(by revert τ;refine Hv ?_),.(by refine Hr ?_;intro sq),.(by obtain⟨s1,_⟩:=hz),w.take,(Po (K:=K)),qa0 ?hT,(?A4 M1),T.n_isinstance,SameX.of,q.1.toNat,(?qM),(?wX [o]),sL.seq,?c 0,(C7 Ac),(?pU),["piece"],[none],Cf ?dN ?j ?oB,T.cl_Work,(v:V),Hs ys t,g2.trans g3,fun Ju=>Ju _ _ ?sO,Ay ?fI fam,sH.trans,p.2.2.2,[none,?c 1],?m p1,ns.map ?u,"self",.(by rfl),?cX sp,(E3 (K:=K)),(?A6 ?h Aj),?aS hq,(?zS rfl),TI.same,(Ij (K:=K)),?aC (fun z=>?cO (z▸hm) ?hD),?t ha,"_law_words",Vc.of,"thing","turn",?u 0,?zI ?lF,"backs",Hj hv,layer[j],?wO zs,(ws:?aZ),(?h1),fam=0,(k:Int),(?A4 ?n),?d (fs.getD i 0),?xK D,.(by refine(?x6 p)),.(by revert τ;refine Hv ?_;intro s1 Eg hz1 o Fd;subst hz1),.(by refine(?wY a ?rE)),.(by refine ?z1 ?_),.(by rintro ys τ H1 ⟨s1,Eg,rfl,_⟩),.(by rintro i x ys τ H1 hx Di),.(by refine(?zU ?_)),"_law_i",.(show(?aD).toNat=i by omega),⟨?cT,?cT⟩,?aC hf,fam<0,?m p,[?fC,"many"],cK p.2.2.1,qk0 _ ?bQ,?z2 m,[?nA],(?zX (?zC ?bG ?n)),id hL,k01.trans,(by ext j4),(w:?aQ),iS most,?aI e,Cf vs ?j ?oB,Ak nD,?m a,⟨_,_,?j,[],rfl,?l hp0,?bI (?Z),rfl⟩,Ak n1,?lD 1,(u1 aM),(TI K H2 v w),w.length-1,(c':Int),[?fC,"bound"],cK ns,?t rfl,Same.refl,(?zB (?zX ?b8)),"numbers",?aC e,(w.length=i),(Aa Aj Ac),⟨?f0,?f0,?f0,?f0⟩,.(by rw[qb1,qg8];omega),?cS (?lE),(?wM ?h),Vp lf (?dH j),p.getD,[(?P,?P+1),(?P+1,?P)],rS pa,"_law_most",if j=i then 1 else 0,(?jM).length,(?zC ?h ?k),upd H2 d (.dK (cK ?h5)),Lat.blendR,(by ext U),p.1=1,qd3 _,Cf vs (?c (?P+2)) ?j,?c3 (by rw[Bu];omega),σ'=[?b0,rS ta,?c (?d (w:Int))],.(by have:=r.length;ext z),s1.free,List.range,ns[j]%(?iM-1),(?iP hv).1,(D:Addr),qj0.mp,Bs ?eF,[?aM,"j"],sp.zip ns,(by omega),g.seq,(fun h1=>?_),[?dR,?cW],(need:Int),[?a9,?d2],t≠D,(?kB),fun _=>False,fun l=>[l],(?c8)[m],?iI s4,((?h9:Nat):Int),[?cL,"k"],(Tz.length:Int),T.n_enumerate,iS kind,Tz[j],[?fD],?d ?P,gp _ _ Ef,iS c',(?tK),s1.turn hD,Ak ?lB,s3.trans,["a",?dR,"b",?cW],TI.get,[?nA,"i"],(vs.length:Int),[?fC],?aC h3,qa3.mp,qa0 hi2,N1 ?aW (ls.take i),"faces",(?A6 ?a3 Aj),layer,(?x4 K4 aM),(?P+1),F7.nd,?aC ?hD,?c q,"__init__",.(by refine⟨_,rfl,_,_,rfl,rfl,?g0,?a2,?qX⟩;refine ?oJ),.(by rintro σ H2 Di;revert σ;refine Vr ?_;intro c' v o w s2 tv hwl Fd;exact⟨_,rfl,k v H2 w s2 tv (hW w hwl)⟩),.(by refine⟨_,rfl,_,rfl,O9m,O9m,?Q⟩),.(by first | exact Or.inl rfl | exact Or.inr rfl),.(by rw[?c4,R8];simp[h1]),.(by injection this with this),.(by refine On (?bJ) ?_),.(by revert σ;refine jC ?_),.(by rw[hx]at hx';cases hx'),.(by rw[qa8,?c9]at hx),fun w=>?l4,sp _ _ Eg,Tz.map ?u,?X (i<b),qa0 hjl,g.trans,"is_list_of_wholes",Fj fam w,H' p=?c (?V Ah dx fs),(?eT).take,belowD (?b5) b,?bO i [],upd H6 c4 (?g (?hG)),"level_of",fun i=>?s7,upd H9 e2 ?tY,"plus","_law_at",us.length=xs.length,?xO H2 T3,hfs f hf,(fs:?aQ),upd H5 c3 (?g (?n8)),?A hq,.of Op,[?dR,?cW,?bF],"list_times",?c (?d ?fN),"_law_face","add_at",.of Le,g1 _ _ Ef,((?uP)),(?hL i).map,List Addr,fun E hE=>?_,w.map ?u,"ones",.(by rw[hfs];ext cA),[?cM,?c5,?uQ],Cf ?dN (?c (?P+2)) ?j,Lat.one,i<ns.length,?wO us,?xK p,"is_whole_below","mixed",?A (?A (?A (?qZ))),fun hnd o=>?_,?zI ?bL,["lines",?fD],"places_of_level",fun p hp=>?_,Cls K C/\Dm K C ?bZ/\Dm K C ?fG,⟨[],rfl,rfl,Rows.nil hD,?j,rfl⟩,ql8 _ ?bQ,fun m hm=>?_,?jG gp,[?gV,?aM,?bF],upd H D ?bT,[?fA,?d3,?c5],T.m_Lines,(?eT).length,bs.any id=true,upd H10 e3 (?g (?eN++?nD)),?p9 fun f=>?rJ,[?cL,?fC,"level"],R1.same.free,?l hR,upd H11 e4 (?g (?kF)),.(by rw[qb0];rfl),On (NW O9m) ?_,fun z=>?_,"_law_faces_by",w.drop,SameX.refl _ _,(sz:Int),upd G p (?xT nv),[?bB,?cM],?X (0<=i)&&?X (i<?lN),fun q=>q.map (FQ t),["k","bound"],(?Y s3).trans s4,?d w[i],(xs.length:Int),upd H3 c1 (?g (?gG)),T.n_dict,fun i=>?mU,.(by simpa using q),rows.take,?l vL,["spots",?d2],upd H8 e1 (?g (?eN)),[?cL,"k",?aX],w.getD ?b1 0,.of Ef,"column",s4 _ _ hp3,upd H12 e5 (?g ((Qq os t).map ?u)),?h4 i 0,"told",[?eZ,?aM,?bF],op_mulX,"one_row",[?eZ,?fD],qa0 hmf,"turned",(o7:?aT),"_law_word_by",[?d2,?c0,?a9],[none,?eI],"across",?yB C (Cf (?eY) ?j ?nH),acc.map tI,On ?hD ?_,[?d3,?c5],e.symm,k D H1 hD s1 Eg,(R6 ((?hS).take i)).length,?bO j [],(?iP hy).1,qa2 ..,upd H7 c5 (?g (?n2)),fun D2 H2 Le s2 h2=>?_,?aS hb,(?b6).set,s2.free,?e8 i++[(w.getD i 0+?lX)%fam]++?lD (i+2),R1.free,"times",i<w.length,?d p.1,"_law_piece_off",["_law_script",?cF],?zQ Eg,?n8++?hG,Vc r b H1 G,"_law_size",[?aM,?bF],upd H4 c2 ?oA,"_law_other",?gG++?tW,T.n_zip,"size",[?fC,?bF],?Y sp,[?y7 (t+1),?y7 t],?yD ?h5,"_law_words_with",List (Str × V),(?c m),.(by revert σ;refine Vr ?_;intro c' v o w s2 tv hwl Fd;obtain⟨a,rfl,Wj⟩:=tv.sq;refine ?tI;have s3:?xJ pt [?d (?uV)]:=?l yI;refine ?qS;refine ?o8;refine(?yZ [?uV]);rw[qb0];exact q3),.(by exact⟨?zQ R.at,?dB,as++[D2],by simp[hal],?l9,R.push Le s2 (by rw[hal];exact h2),_,rfl⟩),.(by cases z;have qR:?jT:=?hJ),.(by rintro ys τ H1 ⟨as,hal,rfl,R,_⟩;exact k D as H1 O9m R),.(by exact⟨T.cl_Stairs,T.na_Stairs_rows,T.na_Stairs_backs⟩),.(by refine(?xW hT1)),.(by exact⟨T.cl_Lines,T.na_Lines_rows,T.na_Lines_backs⟩),.(by refine(?x6 pr)),∀(Il:Has P w K mg ?i ?kL ?iJ 1 (Sj K)),a,.(by refine ?aN (fun e=>?_) (fun e=>?_)),.(by obtain⟨hi,b,rfl,hb⟩:=N6 i _ hx),.(by refine ?oJ),.(by rw[At,?iY]),.(by obtain⟨q,hq,rfl,rfl⟩:=Zp hx),.(by obtain⟨_,us,z,hq,r⟩:=?gA),.(by refine BY ?eF ?_),.(by rw[hlen];rintro ⟨_,z⟩),.(by rw[hlen];rintro ⟨z,_⟩),"lifts_of",⟨?a2,?aB,Ab,rfl,?j,rfl⟩,.(show(?P+2)=((t+2:Nat):Int) by omega),D9 (?uD),?gL::(?k8 ?lQ),(?xW hT),s15 _ _ eN,?mS i (?m D1),⟨_,rfl,_,rfl,_,_,rfl,rfl,⟨hb0,hb1⟩,?_⟩,?e0 (VI n f).length true,(?g ?tW),(?c ?P),j<ns.length,(qi8 ?dG),[0,0,0,2,3],∀o,H c=?c o->G c=?c o,(Ar e hD),(?eT)[m],(?Y s28).trans,⟨_,rfl,_,rfl,O9m,O9m,?_⟩,(Pe ?k),(vs:?aZ),"is_table","_law_shape_by",.(by simp at z),((sG.trans g1).trans g2).trans,P3 ws w fam,[rS ta,o1,o2],fun j t' e2=>?_,H0 a=none,?xK a,"_law_need",(?eQ)[i],fun e1 vL=>?_,"add_faces","_law_cell_at",?x5 ?sO,fun pa Ha sa qa=>?_,(?l ho),⟨_,rfl,_,_,rfl,rfl,?_⟩,.(by have:=rM.length;ext z),LO _ _ hLr hLb h,?e G3 G4,?d (n*p.2),(?iP hq).1,(?c8).map,Ka gS r4 t4,(?bO (?m2).toNat []).getD,(?tM i).map,upd G p (?y [?b5,?m b]),(?mM).length,"is_place_of_level",?bO Tz[j].toNat [],⟨Eg,sz,?iG,Ab,?_,_,rfl⟩,[?bB,?cF],(?tR).getD,"start_of",⟨_,rfl,_,rfl,rfl,_,rfl,?_⟩,?xK M,(?cQ).length,dd.keep fun c kvs e0 e=>?_,sa.seqT hq2,hts i t e2,?dO R.same hv,D9 (?mM),"_law_kind",upd H1 p (?V C dx (?xL fs)),N2 ws fam 4 [w] [],[?d g,?d a,?d c],hall2 i' O9m,BY ?hD ?_,Int × Int,?T ?bZ (?c2 D1) fs,(?aD)=((i:Nat):Int),?X (?u fam=?fE)=true,.(show(1:Int)=((1:Nat):Int) by omega),.(show ?yE 1 1 by omega),(C4 ?dY),fun f hf=>?_,fun G4 fs hfs YS=>⟨rfl,?_⟩,(.dK []),?e0 us.length true,(?gB k19),⟨bu5,_,rfl,s5,vN,?_,OS⟩,Part.nil,Na (ws:=ws) (fam:=fam) (layer.take j) [] (fun u hu=>ZY u (qn2 hu)),i<ws.length,?f6 s3 tx,qk0 _ O9m,?x4 x.row hi,Dc ws ?iF (?jK (m+1)),Hm ms fs n i,?d Tz[t],"_law_whole",.(by ext a6),.(fun z=>by cases z),"_law_more",qa5 ?dG ?oD,"flipped",Lat.Straight,⟨a,pt,_,_,rfl,rfl,s3.seqT Wj,?Z,?hQ,fun p3 H3 s4 q3=>?_⟩,"numbers_at",(?cG-1).toNat,fun T1 hT1=>?_,i<xs.length,fun p0 hp0=>?_,"product",?A (?gS),z.there.1,ys.length=i,fun j t z=>?oO,(C4 ?a3),layer++rows,p.2.2.1.take,.(show ?q1 by omega),⟨us,hq⟩,(z▸Le),a=nm\/?uF,s1 _ _ hp,.(by simpa using h6),[?D,?c6,?b0,rS o,o1,o2,o3],?bO p[i].toNat [],(?zS hq),(x2.same s3).there.1,upd G E ?q8,(?l ndl).turn,[?eZ,"i","j",?dR,?cW],(bZ ws f:Int),"_law_any_shape",w.length=0,.(by simpa using h4),"_law_piece",r.length,(o1 o2 o3 o4 o5 o6 o7:?aT),Zf ns ?j ?nH,[o,rS d],"chain_of","without_borders",⟨p,o,vs,ys,os,_,_,_,rfl,s2,hp,ho,hp2,ho2,r2,hT⟩,"is_straight",(Zo ?f),(?z0 o1),(?zU rfl),fun j=>?h8,.(by have:=r2.length;ext z),upd G2 pr (?y [?d j,?d (M i j)]),[?D,rS af,iS n,o1,o2],?y5 p0 us,R1.same.trans R2.same,s0.trans,w.length,?e8 i++?lD ?b1,uP.free hnm,upd G1 t (?xT nv),⟨c,O9m,h2,h3⟩,ns.getD i 0,m<fu.length,(qd3 cW),[none,none,?c 1],⟨?l Le,Ab,rfl,?j,rfl⟩,"_law_turned_order",.(by simp[putF]),.(by obtain⟨_,_,_,_,e,_⟩:=hz;exact e),k D ys H1 hD s1 Eg r1,fun i t e2=>?_,Kp H3 H',(bs.map ?c2).set i (?m D3),fun T2 hT2=>?_,⟨rfl,rfl⟩,?e8 (?gO),w.length=1,Ak rb.symm,hk1 c r n1 n2 e,hts j t' e2,(?e8 i).map,[?D,iS m,?fF,?dE,rS av,?k2,?b9,o7],[?cL,"bases"],s1.seqT hq,bT ?bQ ?bQ,H c=?iZ->H1 c=?iZ,?cO h O9m,?e HL H1,[?dA,?h7],fun R hR=>?_,(?dM).toNat,T.n_tuple,⟨_,qa0 O9m⟩,"_law_chosen",Fj fam u,(aU ?f),⟨hz,O9m⟩,?y5 L (?b6),(ws.take i).map,(G D=?cV),(qh4 _ _),.(by simp[hwl]),sp.getD i 0,(3:Int).toNat,⟨_,rfl,_,rfl,_,rfl,_,_,rfl,rfl,hb0,?M,fun pt yI=>?_⟩,⟨?M,?Q⟩,?zT (layer.take j),upd H T1 (?y [?d 0,?d 2,?d 3,?d 4]),(?eQ).take,?z4 ?jF,?f6 g1 tp,?t (?k5),upd H4 nm ?bT,?bO f.toNat [],[?d2,?iS,?a9],?pJ i 0=?pB (k-1) 0,fun T hT=>?_,(bu:?aZ),[?m ab,va],[?pT,?dA,?h7],(?g ?nD),(?lI)=true,qj5.mp hf,fun D2 Le=>?_,?zQ Ab,(?eR) _ _ Ef,⟨[],rfl,qa1 _,fun f h=>(by cases h)⟩,"faces_agree",[?bB,?dA],(z▸R2.free),"_law_many_of",Ak KY.symm,Gn ms (ns.take i),?xB T2 ((?oE:?aQ).map ?u),[?cL,?iS],ys.getD (t+1) [],(z.same sn).there.1,a=O3\/a=O4,(p o:Addr),fc∈acc,(?c8).length,∀w:?aQ,w.length=(?aU).toNat->?jI,r.getV hv,C3 ?h5 q[m],qh0 _ O9m,TA.of R1 hl1,.(by rw[qp7]<;>rfl),∀f∈fs,0<=f/\f<?lN/\(?tR).length=need,"_law_letters",R.same.seq,G1 a=none,fun t ht=>?_,sp.map ?u,c'%letters,(o1 o2 o3:?aT),ts[j]?=?c t,(G D=?fJ),Dq ?pE=i,⟨ws,_,_,_,_,_,_,rfl,g,Ef,dd,CV⟩,?J sa rL,LT.len hL,?xK D2,ql8 _ O9m,sL.seqT hT,?z4 ?m8,((?jD).length:Int),"check_level",(?q0).length,.(by simpa using hi),.(nomatch z),(?eQ).length,"is_list_of_few",Dq ?h9=k,(?aU:Int).toNat,⟨fs,rfl,O9m,hfs⟩,(os:?aQ),.(by refine ?o5;refine ?mH;exact⟨_,rfl,k _ _ (?gT H) hu⟩),.(by obtain⟨f1,f2⟩:=fin i D H1 hi hD s1 (by rw[Eg];congr 2;exact P0 fun c _=>by simp[QT]) fun r hr=>by funext c;simp[QT,hr]),.(by refine⟨_,rfl,_,_,rfl,rfl,(?wZ 3),rfl,_,rfl,?_⟩;refine ?aN (fun _=>?_) (fun _=>?_)),.(by obtain⟨ta,vs,rfl,hT,rT⟩:=hu;obtain⟨_,_,rfl,rfl,_,_,rfl,rfl,_,_,rfl,rfl,_,_,rfl,rfl,rfl⟩:=rT),.(by revert σ;refine OO ?_;intro L R lu ru layer rows o5 o6 o7 o8 o9 sH hL rL hR rR ZY hlay tK hrl Fd),.(by obtain⟨dx,fs,hp,l1,l2,l3,l4,l5⟩:=x.ob;obtain⟨as,xa,na⟩:=x.rw;obtain⟨bs,xb,nb⟩:=x.bk),.(by exact⟨_,rfl,_,rfl,L,_,_,i,rfl,rfl,f1,Kd (by rw[qa2,x.1];exact hi),(?zU f2)⟩),.(by revert σ;refine VA ?_;intro p o vs ys os o1 o2 o3 s2 hp ho hp2 ho2 r2 hT Fd),.(by refine⟨?a2,?kR⟩;refine k p [] _ hp (?b4) Ab ?_),.(by have rul:ru.length=rows.length:=by have:=rR.length;ext z),.(by revert σ;refine vB ?_;intro ws o1 o2 o3 o4 o5 o6 o7 g Ef dd CV Fd),∀(Gq:Has P w K mg ?i ?lC ?mI 1 (Lx K)),a,.(by revert σ;refine VC ?_;intro W wu ws o5 o6 s2 hW yP rW hO hwl Fd),.(by revert σ;refine VB ?_;intro ws o2 o3 o4 o5 o6 o7 g Ef dd CV Fd),.(by have hjn:?oC:=?dZ),.(by have hi:i<sp.length:=?dZ),.(by have hyl:?r1:=by have:=r1.length;simp at this;omega),.(by revert σ;refine vC ?_;intro m v p o5 o6 o7 sG tp hP hpl Fd),∀(Qb:Has P w K mg ?i ?k4 ?mC 1 (P7 K)),a,∀(Ej:Has P w K mg ?i ?kK ?gQ 2 (Gu K)),a,.(by have nN:∀a,?oU->¬N a:=fun a e z=>x.nn a z e),.(by rwa [show((?eE:Nat):Int)=q.1 by omega]at this),.(by exact fun k k1 k2=>Lat.blend_row_ne k1 k2 _ _ _ _),.(by refine⟨_,rfl,_,rfl,?M,?t3⟩),.(by have:¬c=i:=fun e=>z ?mJ;simp[Lat.one,z,this]),.(by exact sx1 b _ (E6 e hp (by intro z;cases z)) e),.(by revert τ;refine oM ?_;intro hi1 s1 Eg r1 o Fd),∀(Fu:Has P w K mg ?i ?jO ?eL 1 (Lh K)),a,∀(Fv:Has P w K mg ?i "is_whole" ?iN 1 (Jc K)),a,.(by have hq2:Ed K H2 aw ?i0:=sH.seqT hq),.(by refine(?yY ta hT1)),.(by rintro i ys τ H1 hi ⟨as,hal,rfl,R,o,rfl⟩),.(by rw[qa8,?eA,qa4,?eA];rfl),.(by refine BY (by ext j5) ?_),.(by refine On (by ext j5) ?_),.(by rw[hj0]at e2;have et:t=t':=by simpa using e2),.(by obtain⟨_,_,rfl,rfl,_,_,rfl,rfl,rfl⟩:=rT),.(by refine(?yY L hL)),.(by revert σ;refine vF ?_;intro o1 o2 s1 hS Fd),@(Bx P w K mg ?i Eu 1 f fd ?a (?b K)),@(fun _ _ _ _=>?a),@(Bx P w K mg ?i Eu 2 f fd ?a ?b),@(?c (?g ?a)),@(Bx P w K mg ?i Eu 3 f fd ?a ?b),@(fun i σ H2=>V6 fun ?gP ?eP ?dC ?gD=>B6 (σ=[?iE,?a0,?d7,?c ?a,?d7,?a1,o]) ?bC ?gN ?gX),@(.of (?a _ _ ?b)),@(σ'=[?b0,iS i,iS j,iS A,iS B,?aO,iS ?a,iS c,?c (?d ?aG),?c (?d ?aY),rS ci,rS di]),@(σ'=[?b0,iS i,iS j,iS A,iS B,?aO,iS ?a,iS c,?c (?d ?aG),?c (?d ?aY),rS ci,none]),@(B8 (Be En ?a Aj ?v) (Ai ?b) Bo),@(Aa ?a (Aa ?b Ac)),@(Bw (G9 (K:=K) qd9 qh9 qh8 Ft ?a (Aa ?b Ac))),@(Er fun o=>τ=?a),@(⟨_,rfl,?a,rfl,?b,?Q⟩),@(by show ?a8<?a;decide),@(Ap (i:=3) ?a ?b),@(?p ?a ?o),@(Ew (K:=K) ?h ?a),@(fun σ' H'=>Er fun(fam:Int)=>Fc (σ'=[?i9,?a,?gE,?a0,none,none,none]) (?cK) (fam<100)),@(?a (K:=K) ?b),@(key _ _ ?a),@(⟨?a,_,rfl,?Z,rfl,_,_,rfl,_,_,rfl,rfl,?_⟩),@(fun i ys τ H1 ?a hz=>by ext e7;exact ?f4),@(Ap (i:=?a) ?aR ?b),@(Cb ?f ?a7 ?a),@(Ap (i:=?a) ?b (C8 (D5 (K:=K)) ?f ?cE Db ?W)),@(upd H1 ?a (?y ?b)),@(LX ?a Ag L O1 O2 ?j n n ?cI ?b),@(⟨_,rfl,p,Ah,dx,_,rfl,?a,?eO,?b,O9m,?_⟩),@(D7 (fun σ' H'=>σ'=?a/\?cK) ?_ ?eS),@(⟨_,rfl,_,rfl,tI fc,?mG,?a,?t ?b,(by have:=Pw acc;omega),_,rfl,?_⟩),@(Jj fun o1 o2=>τ=?a),@(mkL (N:=?i1) hl1 R1 hl2 R2 ?a sN hfs YS (fun _ z=>z.elim)),@(fun fr hc o e=>fr _ _ (?a _ hc).1 (?b _ hc).2.1 (s1 _ _ e)),@(?e H2 (upd H2 ?a (?y ?b))),@(H ?a=none),@(?T ?bZ (?m D1) ?a),@((?a).length<=1000),@(?a=[?D,iS k,?c (?d (((Rr xs k ?b).length:Nat):Int)),o3]),@(upd ?a ?b ?aA),@(Dq (?a (?dQ)).length),@(⟨D,_,_,rfl,rfl,?a,?aF,?_⟩),@(⟨?aB,Ab,?a,?j,rfl⟩),@(Ap (i:=4) ?a ?b),@(?y [?d sv,?d ?a]),@(Eo (K:=K) (n:=2) ?f (Br (As (i:=3) ?a) (Br ?b Em))),@(?e G2 (upd (upd G2 dl (.own ?a)) ?b (?V Ag dl []))),@(⟨_,rfl,ta,_,_,_,rfl,rfl,?a,rfl,rfl,_,rfl,?_⟩),@(fun k hk=>⟨mk ?a bo.2 hi hk,mk ?b bo.2 hj hk⟩),@(fun k hk=>⟨mk ?a bo.1 hi hk,mk ?b bo.1 hj hk⟩),@(Aa (pv ?a) (Aa ?b ?g9)),@(upd H5 ?a (?V Ah dx (?T ?gV (?m nm) fs4))),@(upd (upd G3 CF (.own L)) ?a (?V Ag CF [])),@(fs.length<=?a),@((?a).map tI),@(?R K H1 ys ((?a ?b).map tI)),@(upd H ?a (?g ?b)),@(Bc ?a4 (Bc ?I ?h (Bc ?a4 ?k ?a ?w) ?w) ?b ?w),@(?d (os.getD ?a 0)),@(⟨?a,?b,rfl,rfl,O9m⟩),@(?c (.frz o (.dK (?a)))),@(by unfold Ay;rw[?g1,?iO,?aI h5,?a h7]),@(upd H1 ?a (?g ?b)),@(Ny _ [] (by rw[qo7];exact Yh.mpr ?a)),@(?c (.dK (cK ?a))),@((?aD+?a)=((i+?b:Nat):Int)),@(?a (by simp only[qb1,qc5,qh2];omega)),@(by obtain⟨g,_⟩:=hz;exact ?hU ?a),@(∀{G:Hp}{c:Addr},?n3->c∈?a->?oF),@(.of (kb ?a mdj _ (xb.2.2 _ _ rdj))),@(.of (kb ?a mdi _ (xb.2.2 _ _ rdi))),@(?a (K:=K) ?f ?i8 ?b),@((if ?i5 > 1 then ?i5 else 1)=k+?a),@(?a (by rw[hys,qa2,qa2,qc1];omega)),@(⟨_,rfl,_,_,d,rfl,?a,hx,_,rfl,?_⟩),@(bM (K:=K) ?f ?n9 ?a),@((?lI&&?X (Dq (?dQ).length=l))=?a),@(?a (by simp only[qc5,qh2];omega)),@(∀a,?a a=none->?b),@(by rw[Ak h3'];exact ?a _ _ h2'),@(As (i:=5) ?a),@(?iK (i:=?a) ?b O9m O9m),@((?bO (?h4 ?a 0).toNat []).getD ?b 0),@((?a).turn hD),@(?a (by rw[?c4,R8];simp[h2]) ?_),@(⟨_,rfl,?a,_,_,_,rfl,rfl,?b,rfl,?_⟩),@(⟨_,_,_,w++?a,rfl,?lL,?cJ,?tF⟩),@([?D,?dV,?b9,?a,o2,o3,o4,o5,o6,o7]),@(?aN (fun h2=>?_) (fun h2=>?a)),@((?r5 ?a).foldl (lift1 ?eV) lg),@(show(?a).all id=true by simp),@(by rw[qa8,?a];rfl),@(Ky (Bc ?I ?h ?a ?w) (Kz ?n ?b Fm)),@(Ar ((WO.trans s4) _ _ ?a) nE),@(Eo (K:=K) (n:=2) ?f (Br ?a (Br ?b Em))),@(As (i:=?a) ?b),@(Az (Dv (K:=K)) ?eC Cc (?wV ?h (Iw (v:=.ty ?dL) rfl ?cE ?a rfl))),@(qw7 ?a ?O ?_),@(Az ?bK ?bN qf9 ?a),@(Bc ?I ?a ?b ?w),@(An ?a hr ?b),@((?d4 ?a).trans ?aL),@(Be ?a ?b Aj ?v),@(fun i ys τ H1=>B6 ?bV ?bH (ys=(?e0 i true).map V.bl) ?a),@(Bf ?a ?b Aj),@(?c (?d ?a)),@(?a K Ag Ad Ah),@(⟨_,rfl,_,_,rfl,rfl,?a,?_⟩),@(?e H1 (?xB ?a ?b)),@(fun i ys τ H1=>Dn (i<=w.length) ?bV ?bH ?a ?b),@(H9 ?a=?wO (VI W (?hC s.1 i j a c ?aG ?aY ?b))),@(VI n (?hC s.2 i j ?aY (-?aG) (-c) a ?a)),@(⟨_,.of ?a⟩),@(s2 _ _ ?a),@(C7 (Aa ?a ?b)),@(⟨_,?a⟩),@(below ws fam [] ?a),@(⟨_,rfl,?a⟩),@(⟨_,rfl,?a,rfl,?b,?_⟩),@(⟨_,(Ai (Bd ?a)),?_⟩),@(Aa ?a Ac),@(Ap (i:=?a) ?cZ ?b),@(H' ?a=?wO ?b),@(B8 ?a (Ai ?b) Bo),@(Ap (i:=2) ?a ?b),@(Ky (?zD Il (Aa ?a ?b)) (Kz ?bG ?n Fm)),@(Ap (i:=3) ?a ?b),@(Ai (Bd ?a)),@(As (i:=?a) ?b),@(Bc ?a4 ?a ?b ?w),@(Be En ?a ?b ?v),@(Ci qb9 rfl (?x4 B5 ?a) (?z8 7 ?b3) (Ai ?b)),@(C8 (Hf (K:=K)) ?f ?t5 Jg (?zX ?a)),@(E8 (?wV (?zC ?a ?dY) (?zC ?b ?a3))),@(Az (Dv (K:=K)) ?eC Cc (?wV ?h ?a)),@(Az (?x4 N4 ?f) T.n_all Qe (?zX ?a)),@(fun _ _ _ _=>?a),@(C8 ?rW ?f ?lP Oe (?zX ?a))])
noncomputable abbrev Rg:Stmt:=top 7
theorem DN:?q ?eL ?eL (Av Rg):=Bg
theorem dX[?s](F:Ey K ?jO ?jO Rg f fd)[?r] :?wL ?eL Lh:=by
 refine ?x1 DN;obtain⟨x,ds,rfl,hx,k⟩:=h;refine(?zW (Az ?t9 T.n_max AU (Aa (Bf G7 ?bA Aj) ?gY)))
 obtain⟨p,us,e,hq,hl⟩:∃(p:Addr) (us:?aZ),x=?g3/\(SqL K H p us\/Ed K H p us)/\us.length=ds.length:=by
  rcases hx with⟨p,us,e,hq,r⟩|⟨p,us,e,hq,r⟩
  . exact⟨p,us,e,?d5,?rO⟩
  . exact⟨p,us,e,?jY,?rO⟩
 subst e;refine⟨_,rfl,p,us,rfl,hq,_,_,rfl,rfl,_,_,rfl,?_⟩;rw[hl];exact k
noncomputable abbrev Lz:Stmt:=top 10
theorem Ks:?q [?cL,?iS,"j","i"] ?uC (Av Lz):=Bg
theorem X6[?s](F:Ey K ?u5 ?u5 Lz f fd)[?r] :?wL ?uC Ox:=by
 refine ?x1 Ks;obtain⟨a,v,xs,p,rfl,hL,hv,Op,hf,k⟩:=h;obtain⟨pa,rfl,hq⟩:=hv.sq;have hpl:(p.map ?u).length=p.length:=?mO
 refine⟨_,(Ae (Ci qb9 rfl (?x9 (?zX (?zB ?aJ))) (?z8 2 Ks.nd) (Ai (Ci qb9 rfl (?x9 ?aH) (?z8 3 Ks.nd) (Ai (B8 (Be Ln (?y6 ?n ?x) (?y6 ?x (?zH G7 ?n)) ?v) ?eB Bo)))))
  ?eB),?_⟩
 ext F
 refine⟨_,rfl,pa,_,rfl,?jY,_,rfl,O9m,O9m,?_⟩;rw[hpl]
 let Pq2:?bE:=fun j σ H2=>Fc (H=H2) ((∃o2 o3,σ=[?D,?h6,o2,o3])) (∀j' i',j'<j->i'<j'->Tu xs p j' i'=true)
 refine Co (lo:=0) (n:=((p.length:Nat):Int).toNat) Pq2
  ⟨rfl,⟨?j,?j,rfl⟩,fun j' i' h=>?t0⟩ ?_ ?_
 . rintro j σ H2 hj Di
   ext L
   obtain⟨rfl,⟨o2,o3,rfl⟩,hall⟩:=Di;have hj':j<p.length:=O9m
   ext nT
   let Pq3:?bE:=fun i σ H2=>Fc (H=H2) ((∃o3,σ=[?D,?h6,?zI (0+j),o3])) (∀i',i'<i->Tu xs p j i'=true)
   refine Co (lo:=0) (n:=?t4) Pq3
    ⟨rfl,?f5,fun i' h=>?t0⟩ ?_ ?_
   . ext d9
     ext L
     obtain⟨rfl,⟨o3,rfl⟩,hall2⟩:=Di;have hij:i<j:=O9m
     have mj:?h4 j 0∈p:=by rw[qa4,qa0 hj'];exact ?hF
     have mi:?m2∈p:=by rw[qa4,?eA];exact ?hF
     obtain⟨j0,j1,j2⟩:=hf _ mj;obtain⟨i0,i1,i2⟩:=hf _ mi;obtain⟨_,z,hq1,at1⟩:=?yU ?dM hv;cases z;rw[show ?t4=j by omega]at at1;obtain⟨_,z,hq2,at2⟩:=?yU ?aD hv;cases z;rw[?fZ]at at2;obtain⟨QH,v1,hu1,av1,tv1⟩:=?dJ hL j0 j1;obtain⟨us2,v2,YH,av2,tv2⟩:=?dJ hL i0 i1;obtain⟨b1,e1,hb1,ab1⟩:=?yU ?aD tv1;obtain⟨b2,e2,hb2,ab2⟩:=?iK (i:=?dM-1) tv2 O9m O9m;subst e1 e2;rw[?fZ]at ab1;rw[show(?dM-1).toNat=j-1 by omega]at ab2;refine⟨_,rfl,_,rfl,_,rfl,pa,_,_,_,rfl,rfl,hq1,at1,a,QH,_,_,rfl,rfl,hu1,av1,_,rfl,b1,_,_,_,rfl,rfl,hb1,ab1,?_⟩;refine⟨_,rfl,_,rfl,_,rfl,pa,_,_,_,rfl,rfl,hq2,at2,a,us2,_,_,rfl,rfl,YH,av2,_,rfl,_,_,rfl,rfl,b2,_,_,_,rfl,rfl,hb2,ab2,?_⟩;refine⟨rfl,_,rfl,?_⟩;by_cases hag:?yV j i=?pB (j-1) 0
     . refine On (eqI hag) ?_;refine⟨rfl,?f5,fun i' h=>?_⟩;by_cases hz:i'=i
       . subst hz;unfold Tu;exact qg4 hag
       . exact ?pX
     . refine BY (neI hag) ?_
       have e2:Mj xs p=false:=by
        cases q:Mj xs p with
        | false=>rfl
        | true =>
          unfold Mj at q;rw[qe9]at q;have q2:=q j (qe0.mpr hj');rw[qe9]at q2;have q3:=q2 i (qe0.mpr hij);exact ?cO (qd7 q3) hag
       ext cD
   . rintro σ H2 ⟨rfl,⟨o3,rfl⟩,hall2⟩;refine⟨rfl,⟨_,_,rfl⟩,fun j' i' h1 h2=>?_⟩;by_cases hz:j'=j
     . subst hz;exact ?pX
     . exact hall j' i' O9m h2
 . rintro σ H2 ⟨rfl,⟨o2,o3,rfl⟩,hall⟩
   have e2:Mj xs p=true:=by
    unfold Mj;rw[qe9];intro j hj;rw[qe9];intro i hi;have:=qe0.mp hj;exact hall j i O9m (qe0.mp hi)
   ext cD
noncomputable abbrev Xt:Stmt:=top 16
theorem aE:?q [?d2,?c0,?a9,"total"] ?mC (Av Xt):=Bg
theorem KU[?s](F:Ey K ?k4 ?k4 Xt f fd)[?r] :?wL ?mC P7:=by
 refine ?x1 aE;obtain⟨a,ms,k,n,rfl,ha,hl,kq⟩:=h;have aM:=hr.u8
 refine⟨_,(Ae (?x0 aE.nd (Bf Cl (X3 ?gM ?h ?k Aj ?gZ) ?n))
  (Ai (B8 (?zF En ?x) (Ai (Bw (NK ?h ?k X1 ?gZ))) (Ai (RK ?gM ?h ?k ?x ?f))))),?_⟩
 ext F
 refine⟨_,rfl,a,rfl,?t (?zS ?f9),_,rfl,_,jI (?f9),_,rfl,Da ms k,n,jN ms k,rfl,?_⟩;ext aE;ext a5
 . have e:Da ms k+n=0:=?B
   unfold Ji at kq;rw[?gF]at kq;refine⟨_,rfl,a,rfl,?t (?zS ?f9),_,rfl,?cY,?t k,ha,rfl,fun v hv=>?_,fun hn=>?_⟩
   . rw[tY];exact kq
   . rw[HV]at hn;have hn':C3 ms k=none:=by simpa using hn
     have e2:Hw ms k=ms:=by
      unfold Hw;rw[List.filter_eq_self];intro p hp
      have:¬p.1=k:=fun z=>by
       have h3:(ms.any fun p=>?X (p.1=k))=true:=qn7.mpr ⟨p,hp,by simpa using z⟩;rw[W2]at h3;obtain⟨p',EM,e'⟩:=qf2.mp h3;rw[←e']at hn'
       have:∀(ns:Ms),p'∈ns->C3 ns p'.1≠none:=by
        intro ns
        induction ns with
        | nil=>intro z;cases z
        | cons q ns ih =>
          intro hq;rw[Dl];split
          . exact ?qN
          . rename_i hne
            rcases qb7.mp hq with rfl | hq
            . exact ?cO rfl hne
            . exact ih hq
       exact this ms EM hn'
      ext z
     rw[e2,WH ha]at kq;exact kq
 . have e:¬Da ms k+n=0:=?B
   unfold Ji at kq;rw[?gW]at kq;exact⟨_,rfl,_,rfl,_,rfl,a,_,rfl,TQ ha hl,kq⟩
noncomputable abbrev bI:Stmt:=top 17
theorem MX:?q ?hY ?hY (Av bI):=Bg
theorem NT[?s](F:Ey K ?mW ?mW bI f fd)[?r] :?wL ?hY dG:=by
 refine ?x1 MX;obtain⟨n,a,ms,rfl,ha,hm,hok,k⟩:=h
 refine⟨_,(Ae (?wU ?h (Bd Sy))
  (?A4 (?AE (nK (B7 (N':=[?c0,"old",?a9]) (cap:=[none,none,?eI]) ?f ?E ?oK (?wM (?z7 (As (i:=0) uX) (As (i:=1) uX))) ?N (?wM (?zR ?h (Aa (Bf ?m5 ?n ?k) Ac)))))))),?_⟩
 ext F
 ext aE;ext a5
 . have e:n=0:=?B
   intro D hD;refine k D _ hD (?aB) ?_;rw[Ab];unfold T5;rw[?gF];rfl
 have e:¬n=0:=?B
 refine ?A ⟨a,?cY,ha,?kN⟩;refine⟨_,rfl,a,o,?cY,rfl,Ab,?Q⟩;obtain⟨TM,nDa⟩:=EO hD
 let Pq4:?H:=fun i zs τ H1=>Er fun(ts:?k9)=>Mn (zs=ts.map ?c2) (ts.length=i) ((∀(j:Nat) t,?uX->∃p:?pZ,ms[j]?=?c p/\H1 t=?c (?y [?mY,?p7])/\?hZ)) (H1 a=?y9 ?cY) (H1 D=?fJ) ((∀c q,c≠a->?sZ)) (?xG [o1,o2,iS n])
 refine Zi (d:=a) (o:=o) (kvs:=?cY) Pq4
  ⟨[],rfl,rfl,(?r2),?_,Ab,?_,?j,?j,rfl⟩ (fun i zs τ H1 _ hz=>?sI) ?_ ?_
 . rw[Ak nDa.symm];exact Ab
 . intro c q n1 e2;rw[Ak (Ar e2 TM),?gK];exact e2
 . rintro i kk x zs τ H1 p hx ⟨ts,rfl,cW,hts,ha1,Eg,hk1,o1,o2,rfl⟩ hp;ext nV;have hlt:i<ms.length:=?p8;have sp:?zL p [?d q.1,?d q.2]:=?b4;ext fR;refine⟨_,rfl,_,rfl,_,rfl,_,_,rfl,rfl,hok q (qb6 hq),?M,?uT⟩;have st:=sp.trans (?l (o:=?y [?d q.1,?d (n*q.2)]) ht);have ntD:?hZ:=(Ar (?jC) ht).symm;refine⟨st _ _ Eg,?dB,ts++[t],?bJ,by simp[cW],?oS,?_,Ab,fun c r n1 e2=>?_,_,_,rfl⟩
   . rw[List.getElem?_append]at e2;split at e2
     . obtain⟨p',FJ,h2',h3'⟩:=?sT;exact⟨p',FJ,?yS st,h3'⟩
     . rename_i hj
       have hj0:j-ts.length=0:=by
        cases hz:j-ts.length with
        | zero=>rfl
        | succ m=>rw[hz]at e2;simp at e2
       ext wH
       subst et;refine⟨q,by rw[show j=i by omega];exact hq,?_,ntD⟩;rw[Ak ntD];exact Ab
   . rw[Ak nDa.symm];exact st _ _ ha1
   . have:=hk1 c r n1 e2;rw[Ak (fun z=>by rw[z,TM]at e2;cases e2)];exact st _ _ this
 . rintro zs τ H1 ⟨ts,rfl,cW,hts,ha1,Eg,hk1,_⟩;rw[R7]at cW;refine⟨ha1,D,ts,cK (ms.map fun p=>(p.1,n*p.2)),rfl,(by rw[Ak nDa];exact Eg),(by rw[R7,qa2];exact cW),?sK,?kA⟩
   . obtain⟨p,FJ,h2',_⟩:=?pQ;refine⟨(?t p.1,?p7),?_,?_⟩
     . unfold cK;rw[qa8,qa8,FJ];rfl
     . have nta:t≠a:=E6 h2' ha1 (?qN);rw[Ak nta];exact h2'
   . have s1:?e H (upd H1 a (.dK (?cY))):=fun c q e2=>by
      by_cases z:c=a
      . subst z;rw[ha]at e2;cases e2;exact Ab
      . rw[Ak z];exact hk1 c q z e2
     refine k E _ (?hK hE) (?cX (?l hE)) ?_;rw[Ab];have hnd':nd ms:=Yh.mp hnd;rw[?yC (gJ hnd' n)];unfold T5;rw[?gW,qo7]
noncomputable abbrev Ie:Stmt:=top 30
theorem Sr:?q ?iN ?iN (Av Ie):=Bg
theorem S4[?s](F:Ey K ?vD ?vD Ie f fd)[?r] :?wL ?iN IQ:=by
 refine ?x1 Sr;obtain⟨v,xs,rfl,hL,hx,k⟩:=h;obtain⟨Qp,n0⟩:=T.x_MOST_PIECES;obtain⟨a,us,rfl,hq,r⟩:=?gA;have hl:?jT:=?hJ
 refine(?zW (Mb (?z9 Db) (Nv (Lm iY ?bA (Kc (v:=?d 40) ?f n0 ?f5) ?v))));refine⟨_,rfl,?gI,?dL,_,rfl,?kM,hL,_,rfl,?_⟩;refine BY ?f ?_;refine⟨_,rfl,a,_,rfl,?d5,_,_,rfl,rfl,?_⟩;show Q (.bl (?X ((us.length:Int)<=40))) H;rw[qg4 ?hT];exact k
noncomputable abbrev Xr:Stmt:=top 40
theorem kL:?q ?hR ?hR (Av Xr):=Bg
theorem kT[?s](F:Ey K ?lZ ?lZ Xr f fd)[?r] :?wL ?hR z7:=by
 refine ?x1 kL;obtain⟨v,h,w,j,f,rfl,hv,hh,hj,k⟩:=h;obtain⟨a,us,rfl,hq,Yw,N6⟩:=?fH;refine(?zW (B7 (N':=[?aX,"j"]) (cap:=?eW) ?f ?E ?bS (?wM (?z8 0 xT)) ?N (?wM ?hA)));ext fT
 let Pq5:?H:=fun i ys τ H1=>B6 ?bV ?bH (ys=VI i (fun i=>f i j)) (?wX [o,iS j])
 refine Cy (K:=K) (a:=a) (xs:=us) Pq5
  ?bW (?x7 _) ?_ ?_
 . ext fW;ext fS;ext nS;refine⟨_,rfl,_,rfl,b,_,_,_,rfl,rfl,?mR,Ap6 hj,?_⟩;refine⟨Eg,?hH,?iG,Ab,?_,_,rfl⟩;rw[Tw]
 . ext fV;rw[Yw]at Eg;exact ?mK
noncomputable abbrev Uf:Stmt:=top 42
theorem FW:?q ?iL ?iL (Av Uf):=Bg
theorem gF[?s](F:Ey K ?m6 ?m6 Uf f fd)[?r] :?wL ?iL Xa:=by
 refine ?x1 FW;obtain⟨n,i,rfl,hn,k⟩:=h;refine(?zW (B7 (N':=["j","i"]) (cap:=?eW) ?f ?E (?x9 ?W) (?wM (?z8 0 xS)) ?N (?wM (X2 (?A7 ?h ?k) Aj Aj))));ext j3
 let Pq6:?H:=fun j ys τ H1=>B6 ?bV ?bH (ys=VI j (?rZ)) (?wX [o,iS i])
 refine Fp Pq6
  ?bW ?_ ?_
 . rintro j ys τ H1 hj Di;ext fS;refine ?pL;have sz:(VI j ?rZ).length<sizeLine:=?hH;ext a5
   . have e0:?dM=?bL:=?B
     have e:j=i:=O9m
     refine ?pH;rw[Tw,?gF]
   . have e0:¬?dM=?bL:=?B
     have e:¬j=i:=O9m
     refine ?pH;rw[Tw,?gW]
 . ext fV;rw[qe4]at Eg;exact ?mK
noncomputable abbrev BI:Stmt:=top 44
theorem mY:?q ?iJ ?iJ (Av BI):=Bg
theorem nU[?s](F:Ey K ?kL ?kL BI f fd)[?r] :?wL ?iJ Sj:=by
 refine ?x1 mY;obtain⟨a,b,x,y,n,p,q,rfl,hx,hy,hn,hm,k⟩:=h;refine(?zW (B7 (N':=["left","right","a","b"]) (cap:=[none,none,?eI,?c 2]) ?f ?E (?yO (Aa ?k ?dT)) (?wM (?z7 (?A5 0 OA) (?A5 1 OA))) ?N (?wM (Bf Cl (Bf ?m5 ?n ?h) (Bf ?m5 ?x ?k)))));refine⟨_,rfl,_,rfl,x,y,rfl,(?zS hx),(?zS hy),?Q⟩
 refine AS (K:=K) (a:=x) (b:=y) (xs:=VI n p) (ys:=VI n q) (n:=n) (by rw[Bu,Bu,qw4]) (fun i zs τ H1=>B6 ?bV (H1 D=?fJ) (zs=VI i (fun j=>a*p j+b*q j)) (?xG [o1,o2,iS a,iS b]))
  ⟨?aB,Ab,rfl,?j,?j,rfl⟩ (fun i zs τ H1 _ hz=>by ext e7;exact⟨?aS hx,?aS hy⟩) ?_ ?_
 . rintro i u v zs τ H1 pr hu hv Di hp;revert τ;refine vA ?_;intro s1 Eg hz1 o1 o2 Fd;subst hz1;obtain⟨hi,rfl⟩:=Va hu;obtain⟨_,rfl⟩:=Va hv;have sp:?zL pr [?d (p i),?d (q i)]:=?b4;ext nP;refine⟨_,rfl,_,rfl,_,_,rfl,rfl,(hm i hi).1,_,rfl,_,rfl,_,_,rfl,rfl,(hm i hi).2,_,_,rfl,rfl,?_⟩;refine⟨?jC,?hH,?yW ?f1,Ab,?_,_,_,rfl⟩;rw[Tw]
 . rintro zs τ H1 ⟨s1,Eg,rfl,_⟩;exact ?mK
noncomputable abbrev Nm:Stmt:=top 50
theorem b8:?q ?lU ?lU (Av Nm):=Bg
theorem d6[?s](F:Ey K ?qT ?qT Nm f fd)[?r] :?wL ?lU Qr:=by
 refine ?x1 b8;obtain⟨a,b,sp,ms,rfl,JE,hb,hl,kq⟩:=h;have aM:=hr.u8;refine(?zW (B7 (N':=[?c0,?d2]) (cap:=?eW) ?f ?E ?bS (?wM (?z8 0 xR)) ?N (?wM (X3 ?gM ?k ?h Aj ?gZ))));refine(?wY a (?zS JE))
 let Pq7:?H:=fun i ys τ G=>B6 ?cN ?tD (ys=((sp.take i).map (Da ms)).map ?u) (?wX [o,?dV])
 refine Cy (K:=K) (a:=a) (xs:=?uU) Pq7
  ?bW (fun i ys τ G _ hz=>?yG JE) ?_ ?_
 . rintro i x ys τ G hx Di;ext e5;intro g Ef hys o Fd;ext vX
   have hxv:x=?d sp[i]:=by
    ext jA;ext cC
   subst hxv;have vM:=RE g hb;refine⟨_,rfl,b,rfl,?t (?zS vM),_,rfl,_,jI vM,?_⟩;rw[jN];refine⟨Ef,?yM ?c3,g.turn hD,Ab,?_,_,rfl⟩;rw[qf5,?c9,qb0,qb0,hys];rfl
 . rintro ys τ G ⟨g,Ef,hys,_⟩;rw[qa2,qd2]at hys;refine kq D G hD g ?_;rw[Ef,hys]
noncomputable abbrev Xu:Stmt:=top 54
theorem KL:?q ?iB ?iB (Av Xu):=Bg
theorem kW[?s](F:Ey K ?mE ?mE Xu f fd)[?r] :?wL ?iB AA:=by
 refine ?x1 KL;obtain⟨u,t,rfl,hu,k⟩:=h
 refine⟨_,(Ae (?A0 (Be En ?f3 Nu ?v) (Bd (?zR Nu (Aa ?f3 (?wV ?f3 (My Hx ?f3))))))
  (?A4 ?h)),?_⟩
 ext F
 cases t with
 | ad i j n =>
   ext vL;refine ?o5;refine ?pY;refine⟨_,rfl,ta,_,_,_,rfl,rfl,hT,rfl,_,rfl,ta,_,_,_,rfl,rfl,hT,rfl,_,rfl,ta,_,_,_,rfl,rfl,hT,rfl,_,rfl,?M,?qV⟩;exact k _ _ (?l hT1) ⟨T1,_,rfl,?Z,⟨_,_,rfl,rfl,_,_,rfl,rfl,_,_,rfl,rfl,_,_,rfl,rfl,rfl⟩⟩
 | mi i =>
   obtain⟨ta,vs,rfl,hT,rT⟩:=id hu;ext wI;ext vI
 | sw i j =>
   obtain⟨ta,vs,rfl,hT,rT⟩:=id hu;obtain⟨_,_,rfl,rfl,_,_,rfl,rfl,_,_,rfl,rfl,rfl⟩:=rT;ext vI
noncomputable abbrev Ez:Stmt:=Ex (top 55) 0
theorem Wa:?q ?bY ?bY (Av Ez):=Bg
theorem Om[?s](F:Ey K ?j0 "Lines.__init__" Ez f fd)[?r] :Bx P w K mg ?i Eu 1 f fd ?bY (?zJ Mr):=by
 refine ?x1 Wa;obtain⟨p,dx,C,r,b,rfl,hC,hp,k⟩:=h
 have hc:?kS:=by
  rcases hC with rfl | rfl
  . ext nO
  . ext nM
 refine⟨_,(Ae (?x2 ?k)
  (Ai (?x2 ?n))),?_⟩
 ext F
 refine⟨_,rfl,_,rfl,p,C,dx,_,rfl,hp,?S,?c1,?bJ,?_⟩;refine⟨_,rfl,_,rfl,p,C,dx,_,rfl,Ab,?S,?bR,?sH,?_⟩;exact k _ _ rfl rfl
noncomputable abbrev Rc:Stmt:=top 59
theorem O0:?q [?aX,"at"] [?aX] (Av Rc):=Bg
theorem DV[?s](F:Ey K ?pK ?pK Rc f fd)[?r] :?wL [?aX] So:=by
 refine ?x1 O0;obtain⟨c,W,st,u,rfl,hq,hb,hW,k⟩:=h;obtain⟨b1,b2,b3⟩:=hb
 refine⟨_,(Ae (Ap (i:=1) O0.nd Aj)
  (Ae (Su qb9 (?zF En ?hA) (Ai (Ap (i:=1) O0.nd (?zH Cl ?k))))
  (?A4 ?k))),?_⟩
 ext F
 refine ?xE [rS c,?c (?d (0:Nat))];ext e6;refine ?zA (fun σ' H'=>σ'=[rS c,?c (?d (st:Int))]/\?cK)
 . refine⟨fun m σ G=>Er fun(j:Nat)=>B6 (σ=[rS c,?c (?d (j:Int))]) (H=G) (j<=st) (m=st-j),⟨_,0,rfl,rfl,?a2,rfl⟩,?_⟩;rintro m σ _ Di;refine sW ?_;intro _;obtain⟨j,rfl,rfl,hj,rfl⟩:=Di;refine⟨_,rfl,_,rfl,c,_,_,_,rfl,rfl,hq,Bk (Cq O9m),rfl,_,rfl,?_⟩;ext a5
   . have h0:u j=0:=?B
     have hlt:j<st:=Nat.lt_of_le_of_ne hj fun z=>b2 (z▸h0);refine⟨fun σ' G'=>Er fun(j':Nat)=>Fc (σ'=[rS c,?c (?d (j':Int))]) (H=G') (j'=j+1),?_,?_⟩
     . rintro σ' G' ⟨j',rfl,rfl,rfl⟩;exact⟨st-(j+1),O9m,j+1,rfl,rfl,hlt,rfl⟩
     . exact⟨_,rfl,_,_,rfl,rfl,j+1,rfl,rfl,rfl⟩
   . have h0:¬u j=0:=?B
     have hlt:j=st:=by
      rcases qg0 j st with h | h
      . exact ?cO (b1 j h) h0
      . omega
     subst hlt;exact ?p0
 ext e6;exact(?zU k)
noncomputable abbrev Ly:Stmt:=top 65
theorem Kr:?q [?aM,"i",?aX] [?aM] (Av Ly):=Bg
theorem X5[?s](F:Ey K ?rV ?rV Ly f fd)[?r] :?wL [?aM] Oj:=by
 refine ?x1 Kr;obtain⟨v,n,w,M,rfl,hv,hn,hw,k1,k2⟩:=h;obtain⟨ta,us,rfl,hq,Yw,N6⟩:=?fH
 refine⟨_,(Ae (Ci qb9 rfl (?yK Sx ?W) (?z7 (?A5 1 Kr.nd) (?A5 2 Kr.nd)) (Ai (B8 (G6 (Az (?x4 Yr ?f) T.n_any aV (?zX (B7 (N':=["j",?a9,"i"]) (cap:=?sE) ?f ?E (?yK Sx ?aH) (?wM (?z7 (?A5 0 nZ) (?A5 1 nZ))) (?wM (Kb (Be Ln ?h ?n ?v))) (?wM (Lm Ln ?k Aj ?v)))))) ?eB Bo)))
  ?eB),?_⟩
 ext F
 refine ?zA (fun σ' H'=>Jj fun o1 o2=>Fc (σ'=?oR) ?cR (?qR n w M))
 . refine(?zV ta ?r7)
   let Pq8:?bE:=fun i σ G=>Jj fun o1 o2=>Fc (σ=?oR) ?cN (?qR i w M)
   refine Y6 (K:=K) (a:=ta) (xs:=us) Pq8
    ⟨?j,?j,rfl,?gT H,fun i j hi=>O9m⟩ (fun i σ G _ hz=>by obtain⟨_,_,_,s1,_⟩:=hz;exact ?f4) ?_ ?_
   . rintro i v σ G p hv Di hp
     ext L
     ext wK;obtain⟨hi,b,rfl,hb⟩:=N6 i v hv;have sp:?e G (?pD):=?b4;ext fR;generalize ?pD=G1 at sp;have s2:=?f1;refine(?wY b ⟨_,?dX hb⟩)
     let Pq9:?H:=fun j zs τ G2=>Er fun(bs:List Bool)=>Mn (zs=bs.map V.bl) (bs.length<=j) ((?l2↔∃c,c<j/\c≠i/\M i c≠0)) (?e G1 G2) (G2 D=?fJ) (j<=w) (?xG [o1,o2,?kO])
     refine aT (K:=K) (a:=b) (xs:=VI w (M i)) Pq9
      ⟨[],rfl,qa1 _,⟨fun z=>?oO,fun⟨c,hc,_⟩=>O9m⟩,?aB,Ab,?a2,?j,?j,rfl⟩ (fun j zs τ G2 _ hz=>by obtain⟨_,_,_,_,g,_⟩:=hz;exact ?hU (?dX hb)) ?_ ?_
     . rintro j y zs τ G2 pr hy ⟨bs,rfl,oV,hiff,g,Ef,hj,q1,q2,rfl⟩ hpr;obtain⟨zX,rfl⟩:=Va hy;have gp:?e G2 (?s1):=?l hpr;ext nP;generalize ?s1=G3 at gp;refine ?pL;ext a5
       . have hji:j≠i:=by
          have:¬((j:Nat):Int)=?bL:=?B
          omega
         refine⟨_,rfl,rfl,?iD,?dB,bs++[!(?X (M i j=0))],?_,?qM,?_,?yW ?kW,Ab,zX,_,_,rfl⟩
         . rw[qb0]
           congr 1
           by_cases z:M i j=0<;>simp[z]
         . rw[List.any_append,qq6,hiff];constructor
           . rintro (⟨c,h1,h2,h3⟩ | h)
             . exact ?sA
             . exact⟨j,O9m,hji,by simpa using h⟩
           . rintro ⟨c,h1,h2,h3⟩;rcases qg0 c j with h | h
             . exact ?t ⟨c,h,h2,h3⟩
             . have:c=j:=O9m
               subst this;exact ?A (by simpa using h3)
       . have hji:j=i:=by
          have:((j:Nat):Int)=?bL:=?B
          omega
         refine⟨bs,rfl,O9m,hiff.trans ⟨fun⟨c,h1,h2⟩=>⟨c,O9m,h2⟩,fun⟨c,h1,h2,h3⟩=>?sA⟩,?kW,?iD,zX,_,_,rfl⟩
     . rintro zs τ G2 ⟨bs,rfl,_,hiff,g,Ef,_⟩;rw[Bu]at hiff;refine⟨D,bs,rfl,?lY,_,rfl,?_⟩;ext a5
       . have h2:?l2:=?B
         obtain⟨c,c1,c2,c3⟩:=hiff.mp h2;exact k2 (fun z=>c3 (z i c hi c1 fun e=>c2 ?mJ)) _ (?Y g)
       . have h2:¬?l2:=?B
         refine⟨_,_,rfl,?Y g,fun x c hx hc hne=>?_⟩;rcases qg0 x i with h | h
         . exact hS x c h hc hne
         . have:x=i:=O9m
           subst this;exact qg5 fun z=>h2 (hiff.mpr ⟨c,hc,fun e=>hne ?mJ,z⟩)
   . rintro σ G Di;ext wK;rw[Yw]at hS;exact ?x5 ⟨_,_,rfl,s1,hS⟩
 refine UI fun o1 o2 G s1 hS=>?_;intro sq;exact k1 hS _ s1
noncomputable abbrev Gy:Stmt:=top 71
theorem Ra:?q ["parts"] ["parts"] (Av Gy):=Bg
theorem Rs[?s](F:Ey K ?rT ?rT Gy f fd)[?r] :?wL ["parts"] Kn:=by
 refine ?x1 Ra;obtain⟨a,us,ps,rfl,ha,rU,hpl,kq⟩:=h;refine(?zW (B7 (N':=["part"]) (cap:=?eM) ?f ?E ?bS (?wM (?z8 0 xQ)) (?wM (Kb (?zF Ln ?f3))) ?h2));refine(?wY a (?zP ha));have ul:=rU.len
 let Bh3:?H:=fun i ys τ G=>B6 ?cN ?tD (B4 G ys (Wv (?dH i))) ?eG
 refine Kk (K:=K) (a:=a) (xs:=us) Bh3
  (?xR trivial) (fun i ys τ G _ hz=>by obtain⟨h1,_⟩:=hz;exact ?wR h1 ha) ?_ ?_
 . rintro i v ys τ G hv Di;ext e5;intro h1 Ef rY o Fd;have hi:=?hN;obtain⟨p,hp,pv⟩:=rU.get hv;have pv1:=pv.same h1;obtain⟨t,c1,c2,c3,rfl,et,_⟩:=id pv1;have LQ:?dH ?b1=?dH i++[p]:=by rw[qf5,hp];rfl
   have yl:ys.length<=1000:=by
    have h2:=rY.len;have h3:=qg2 (fun p:Bz=>?X (p.1≠1)) (?dH i);rw[qc1]at h3;unfold Wv at h2;omega
   refine⟨_,rfl,t,_,_,_,rfl,rfl,.of et,rfl,rfl,_,rfl,?_⟩;ext fU
   . have gR:¬?hE:=?aP
     refine⟨_,rfl,Ef,?aF,h1.turn hD,Ab,?_,_,rfl⟩;rw[LQ,eE,?aC gR];exact B4.snoc (B4.put Ef rY) (pv1.put Ef)
   . have gR:?hE:=?aP
     refine⟨h1,Ef,?_,_,rfl⟩;rw[LQ,eE,?aI gR];exact rY
 . rintro ys τ G ⟨h1,Ef,rY,_⟩;rw[ul,qd2]at rY;exact kq D ys G hD h1 Ef rY
noncomputable abbrev Ui:Stmt:=top 75
theorem FY:?q ["_law_found"] ["_law_found"] (Av Ui):=Bg
theorem GH[?s](F:Ey K ?qL ?qL Ui f fd)[?r] :?wL ["_law_found"] Xe:=by
 refine ?x1 FY;obtain⟨x,d,rfl,hx,k⟩:=h;refine(?zW (Mb (?AB (Iw (v:=.ty "int") rfl T.n_int boot_intT rfl)) (Nv (nJ (?AB (Iw (v:=.ty "bool") rfl T.n_bool Zr rfl))))));refine(?yN ?gS);ext nR
 . refine(?yN ?qZ);have e2:Km d=!JD "bool" d:=by unfold Km;rw[e];rfl
   ext cD
 . have e2:Km d=false:=by unfold Km;simp[e]
   ext cD
noncomputable abbrev Pc:Stmt:=top 76
theorem BH:?q ?n0 ?n0 (Av Pc):=Bg
theorem BQ[?s](F:Ey K ?oZ ?oZ Pc f fd)[?r] :?wL ?n0 Sn:=by
 refine ?x1 BH;obtain⟨a,ns,k,rfl,hS,h0,hl,kq⟩:=h
 refine⟨_,(Ae (?A0 (Be Sz ?k ?bA ?v) (Bd ?hA))
  (?A4 Aj)),?_⟩
 ext F
 refine⟨_,rfl,_,rfl,a,_,rfl,?t hS,_,_,rfl,rfl,_,rfl,?_⟩;ext a5
 . have h2:k<(ns.length:Int):=?B
   have e:V3 (?eY) k=?zI (Zm ns k):=by
    obtain⟨j,rfl⟩:=qk3 h0;refine Bk ?_;have hj:?oC:=O9m
    rw[qa8,qa0 hj];simp[Zm,hj]
   exact⟨_,rfl,_,rfl,a,_,k,_,rfl,rfl,hS,e,kq⟩
 . have h2:¬k<(ns.length:Int):=?B
   have e:Zm ns k=0:=by
    unfold Zm;have:ns.length<=k.toNat:=O9m
    simp[this]
   rw[e]at kq;exact kq
noncomputable abbrev Nq:Stmt:=top 77
theorem Iu:?q [?d3,?c5,?n4,"_law_faces",?fY] ?mI (Av Nq):=Bg
theorem f7[?s](F:Ey K ?lC ?lC Nq f fd)[?r] :?wL ?mI Lx:=by
 refine ?x1 Iu;obtain⟨v,w,fam,rfl,hv,hw,k⟩:=h;obtain⟨aw,rfl,hq⟩:=hv.sq;have hlen:(?kB).length=w.length:=?mO;have YK:w.length<=4:=by rcases hw with z | z | z<;>omega
 refine⟨_,(Ae (?A1 Iu.nd ?bA)
  (Ae (B8 (?zF En ?k) (Ae (?A0 (?zF Sz ?n) (Bd ?bU))
  (?A4 (B7 (N':=[?fY,?d3]) (cap:=?mD) ?f ?E (?x9 ?aH) (?wM (?z8 0 xO)) ?N (?wM (Bf ?e9 (Cv ?dS ?k Ev (C4 ?h)) (Cv ?dS ?k (C4 (?zH Cl ?h)) Ev)))))) Bo)
  (Ae (?wU ?n (Bd ?bU))
  (Ae (B8 (?zF Sz ?k) (Ae (?wU ?n (Bd (E8 (Aa ?eJ (?zX ?eJ)))))
  (?A4 (B7 (N':=["_law_letter"]) (cap:=?eM) ?f ?E (?x4 Ta ?h) (?wM (?z8 0 XO)) ?N (?wM (C7 ?W))))) Bo)
  (Ae (?x0 Iu.nd (E8 (?zX (Cv ?dS ?h (C4 Aj) Ev))))
  (Ae (Ci qb9 rfl (?x9 (?zX (?zH G7 ?n))) (?z8 4 Iu.nd) (Ai (?wW ?x (Bf ?e9 (Bf ?e9 (Cv ?dS ?h Ev (C4 ?K)) (C7 (?zX (Bf E9 (Bf Cl (?A6 ?h ?K) (?A6 ?h (?zH Cl ?K))) ?k)))) (Cv ?dS ?h (C4 (?zH Cl ?K)) Ev)))))
  (Ae (?wW ?x (Cv ?dS ?h Ev (C4 (?zH G7 ?n))))
  (?A4 ?x)))))))),?_⟩
 ext F
 refine⟨_,rfl,aw,_,rfl,?jY,?_⟩;rw[hlen];ext aE;ext a5
 . have hf:?fM:=?B
   subst hf;ext aK;ext fU
   . have h3:w.length<2:=by have:?cG<2:=?aP
                            omega
     ext vQ;have e:Ay w 0=[]:=by unfold Ay;rw[?c4,?aI h3]
     rw[e];rfl
   . have h3:¬w.length<2:=by have:¬?cG<2:=?aP
                             omega
     have e:Ay w 0=(?hL ?s6).map ?jP:=by unfold Ay;rw[?c4,?iO]
     rw[e]at k;ext j3
     let Bh2:?H:=?zM (?y4 ?k8 ?jP) (?wX [o,rS aw])
     refine Fp Bh2
      ?o1 ?_ ?_
     . rintro i ys τ H1 hi Di;ext w8;have hi2:?mX:=?vA
       have hq1:Ed K H1 aw ?i0:=?sX;refine⟨_,rfl,_,rfl,_,rfl,aw,_,rfl,hq1,?_,fun p1 H2 s2 q2=>?_⟩
       . ext nY;rw[?r6,HT.sIx_nat]at z;omega
       refine⟨_,rfl,_,rfl,_,_,rfl,rfl,_,rfl,aw,_,rfl,s2.seqT hq1,?_,fun p2 H3 s3 q3=>?_⟩
       . ext nZ;rw[?q4,HT.sIx_nat]at z;omega
       rw[?r6,Jf]at q2;rw[?q4,Hk]at q3;refine⟨p1,p2,_,_,rfl,rfl,s3.seqT q2,q3,?_,fun p H4 s4 q4=>?_⟩
       . refine Bs ?_;simp only[qc1,qg6,qa2];omega
       have IU:?e H1 H4:=?lL;have gS:H4 D=?cV:=IU _ _ Eg
       have t4:TI K H4 (?g3) (?s7):=by
        refine ?cJ;rw[qb0,qo8,qo9];exact q4
       have r4:?R K H4 ys ((?k8 ?jP).map tI):=?J IU r1;have hyl:?r1:=by have:=r1.length;ext z
       refine⟨gS,?aF,O9m,(?cX IU).turn hD,Ab,?_,_,rfl⟩;rw[ql3,qb0];exact ?pA
     . rintro ys τ H1 ⟨_,s1,Eg,r1,_⟩;rw[show(?cG).toNat=w.length by omega]at r1;exact ?sJ
 . have hf:¬?fM:=?B
   ext aE;ext fU
   . have h3:?rL:=?aP
     ext vQ;have e:?c8=[]:=by unfold Ay;rw[?g1,?aI h3]
     rw[e];rfl
   have h3:¬?rL:=?aP
   ext aK;refine ?aN (fun h4=>?_) (fun h4=>?_)
   . have h5:?g2:=?rM
     ext aE;refine ?aN (fun h6=>?_) (fun h6=>?_)
     . have h7:?sQ:=by
        have:?cG=1:=?rB
        omega
       have e:?c8=[[],[]]:=?yA ?aI
       rw[e]at k;refine⟨?a2,fun p1 hp1=>⟨?a2,fun p2 hp2=>⟨?M,?kR⟩⟩⟩;have s1:?e H (?xO H p1):=?l hp1;have s2:?e (?xO H p1) (?xO (upd H p1 ?aA) p2):=?l hp2;have s3:?e (?xO (upd H p1 ?aA) p2) (upd (?xO (upd H p1 ?aA) p2) p (?g [?eX,?m p2])):=?b4;have hp0:?kJ:=(?bM).free hp;refine k p _ _ hp0 ((?bM).trans s3) Ab ?_;have t1:TI K _ (?eX) []:=?bI (?wR s3 (?u2));have t2:TI K _ (?m p2) []:=?bI (?wR s3 Ab);exact⟨_,_,rfl,t1,_,_,rfl,t2,rfl⟩
     . have h7:¬?sQ:=by
        have:¬?cG=1:=?rB
        omega
       have e:?c8=w.map ?i2:=?yA ?aC
       rw[e]at k;refine(?wY aw ?rE)
       let Bh1:?H:=?zM (?y4 ?sU ?i2) ?eG
       refine Qd (xs:=?kB) Bh1
        ?o1 (fun i ys τ H1 _ hz=>by obtain⟨_,s1,_⟩:=hz;exact ?sX) ?_ ?_
       . ext fW;ext w8;have hi2:?mX:=?dZ
         have hx2:x=?lM:=by
          rw[qa8,?iQ]at hx;ext cC
         subst hx2;refine⟨_,rfl,?M,?kR⟩;have s2:?zL p [?lM]:=?b4;have gS:=?n1;have t4:TI K (?xB p [?lM]) (?g3) [w[i]]:=?bI (?Z);have r4:=?J s2 r1;ext vY
         refine⟨gS,?aF,O9m,?yW ?bM,Ab,?_,_,rfl⟩
         have e2:(?e8 ?b1).map (?i2)=?sU (?i2)++[[w[i]]]:=by
          rw[qf5,?iQ,qb0];rfl
         rw[e2];exact ?pA
       . rintro ys τ H1 ⟨_,s1,Eg,r1,_⟩;rw[hlen,qd2]at r1;exact ?sJ
   have h5:¬?g2:=?rM
   have hpos:0<fam:=O9m
   have e:?c8=?gL::((?hL (?gO)).map ?lQ)++[?sP]:=by
    unfold Ay;rw[?g1,?iO,?aC h5]
   rw[e]at k;refine⟨_,rfl,_,rfl,aw,_,rfl,hq,?_,fun p1 H1 s1 q1=>?tJ⟩
   . ext nZ;rw[?q3,HT.sIx_nat]at z;omega
   rw[?q3,Hk]at q1;have TM:?fQ:=?hK hD;have s2:?e H1 (?yB D [?eX]):=?aB
   have t1:TI K (?yB D [?eX]) (?eX) (?gL):=by
    refine ?cJ;rw[qo9];exact s2.seqT q1
   have hn:?qU=?gO:=O9m
   refine⟨_,rfl,_,_,rfl,rfl,_,rfl,O9m,O9m,Co (lo:=0) (n:=?qU)
    (fun i σ H2=>Jj fun(ys:?aZ) ?dC=>B6 (σ=[rS aw,?a0,?zI ?s6,?b9,o]) ?bC (H2 D=?cV) (?R K H2 ys (?y3 ?o4)))
    ⟨_,?j,rfl,?bM,Ab,⟨_,_,rfl,t1,rfl⟩⟩ ?_ ?_⟩
   . ext d9
     ext L
     ext e3;intro ys o sH Le r2 Fd;rw[hn]at hi;ext wB;have c0:?q1:=O9m
     have c1:?yE 1 1:=O9m
     have c2:?yE 2 2:=O9m
     have at0:V3 ?i0 (?aD)=?zI (w.getD i 0):=by
      rw[c0];refine Bk ?_;rw[qa8,?eA];simp[show ?mX by omega]
     have at1:V3 ?i0 (?aD+1)=?zI (?lX):=by
      rw[c1];refine Bk ?_;rw[qa8,?eA];simp[show i+1<w.length by omega]
     refine⟨_,rfl,?t ⟨rfl,_,SqL.of Le⟩,?_⟩;refine⟨_,rfl,_,rfl,_,rfl,aw,_,rfl,hq2,?_,?p1⟩
     . ext nY;rw[c0,HT.sIx_nat]at z;omega
     rw[c0,Jf]at qa;refine⟨_,rfl,_,rfl,aw,_,_,_,rfl,rfl,?pP,at0,_,rfl,_,rfl,_,_,rfl,rfl,aw,_,_,_,rfl,rfl,?pP,at1,_,_,rfl,rfl,_,rfl,_,_,rfl,rfl,hpos,?M,fun pb hb=>?_⟩;have sb:?e Ha (upd Ha pb (?y [?d ((w.getD i 0+?lX)%fam)])):=?l hb;refine⟨pa,pb,_,_,rfl,rfl,sb.seqT qa,?Z,?hQ,fun pc Hc sc qc=>?_⟩;have sac:=(sa.trans sb).trans sc;refine⟨_,rfl,_,rfl,_,_,rfl,rfl,_,rfl,aw,_,rfl,sac.seqT hq2,?_,fun pd Hd sd qd=>?_⟩
     . ext nZ;rw[c2,HT.sIx_nat]at z;omega
     rw[c2,Hk]at qd;refine⟨pc,pd,_,_,rfl,rfl,sd.seqT qc,qd,?hQ,fun pe He se qe=>?_⟩;have mZ:=(sac.trans sd).trans se;have hDe:=mZ _ _ Le
     have te:TI K He (?m pe) (?mU):=by
      refine ?cJ;simp only[qb0,qo8,qo9,qd5,qt9];exact qe
     have hyl:ys.length=i+1:=?s0
     refine(?xQ hDe);refine⟨_,_,rfl,(?eU mZ).turn TM,Ab,?_⟩
     have e3:(?gL::((?hL ?b1).map ?lQ)) =
      (?o4)++[?mU]:=by
      rw[ql3,qb0];rfl
     rw[e3];exact Ka hDe (?J mZ r2) te
   . rintro σ H2 Di;ext e3;intro ys o sH Le r2 Fd;rw[hn]at r2;ext wB;have c1:(?cG-1)=((?gO:Nat):Int):=O9m
     refine⟨_,rfl,?t ⟨rfl,_,SqL.of Le⟩,_,rfl,_,rfl,_,_,rfl,rfl,_,rfl,aw,_,rfl,hq2,?_,?p1⟩
     . ext nY;rw[c1,HT.sIx_nat]at z;omega
     rw[c1,Jf]at qa;have hDa:=sa _ _ Le
     have ta:TI K Ha (?m pa) (?sP):=by
      refine ?cJ;rw[qo8];exact qa
     have hyl:ys.length=w.length:=by have:=r2.length;simp at this;omega
     refine(?xQ hDa);ext fX;exact k D _ _ TM ((?eU sa).turn TM) Ab (Ka hDa (?J sa r2) ta)
noncomputable abbrev Pa:Stmt:=top 78
theorem Cr:?q [?cM,?c5,?uQ,?n4,"_law_base",?d3,?cF] ?kE (Av Pa):=Bg
theorem BP[?s](F:Ey K ?mB ?mB Pa f fd)[?r] :?wL ?kE Sm:=by
 refine ?x1 Cr;obtain⟨c,fam,letters,rfl,hl0,hl1,hf,k⟩:=h;have m1:0<=?aU:=?kU;have m2:?aU<4:=?g6
 refine⟨_,(Ae (?x8 0 (?zH E9 ?h))
  (Ae (?x0 ?aR (?zH E9 ?h))
  (Ae (?x8 4 ?n)
  (Ae (?wU ?k (?A3 ?aR (?zH Cl ?x)))
  (Ae (B8 (PW.pt (GB (?zF Sz ?k) (BJ (?zF Ln ?x)))) (Ai (?x0 ?aR Aj)) Bo)
  (Ae (?A0 (?zF DU ?k) (?x8 4 ?k))
  (Ae (?x8 0 (?zH Nw ?h))
  (Ae (?x8 5 ?eJ)
  (Ae (Ci qb9 rfl (?x9 ?dT) (?z8 6 ?aR) (Ae (?x8 5 (Bf ?e9 ?a3 (?zR (Bf E9 ?h ?K) Ac)))
  (Ai (?x8 0 (Bf Nw ?h ?K)))))
  (?A4 ?a3)))))))))),?_⟩
 ext F
 refine(?zK (?wZ 1000000));refine(?zK (?wZ 4));ext fX;have fork:(?fM)\/(?g2/\?aU=1)\/(?g2/\¬?aU=1)\/0<fam:=O9m
 have NW:¬?fM->¬(?q2):=fun z q=>z (?lR);have Aj4:?fM->?q2:=fun z=>by simp[z]
 have hb0:0<letters:=hl0;have hb1:letters<1073741824:=O9m
 rcases fork with hz|⟨hz,h1⟩|⟨hz,h1⟩ | hz
 . ext aE;refine BY (Aj4 hz) ?_;refine ?p3;ext aK;ext e2;ext j7;ext aK;ext e2;have hW:∀w:?aQ,w.length=(?aU+1).toNat->?jI:=fun w e=>?t ⟨hz,O9m,O9m⟩;ext j1
   refine Co (lo:=0) (n:=(?aU+1:Int).toNat)
    (?wQ (?d (?aU+1)))
    ?gJ ?_ ?_
   . ext d9
     ext L
     ext nI
   . ext j2
 . ext aE;refine ?lA;ext aK;ext nX;ext aE;refine On (eqI h1) ?_;ext aK;ext e2;have hW:?uJ:=fun w e=>?A (?t ?tA);ext j1
   refine Co (lo:=0) (n:=?vF)
    (?wQ (?d (?aU)))
    ?gJ ?_ ?_
   . ext d9
     ext L
     ext nI
   . ext j2
 . ext aE;refine ?lA;ext aK;ext nX;ext aE;refine BY (neI h1) ?_;ext aK;ext e2;have hW:∀w:?aQ,w.length=?tH->?jI:=fun w e=>?A (?t ⟨hz,?A (?A e)⟩);ext j1
   refine Co (lo:=0) (n:=?tH)
    (?wQ (?d (3)))
    ?gJ ?_ ?_
   . ext d9
     ext L
     ext nI
   . ext j2
 . ext aE;refine ?lA;ext aK;ext e2;ext j7;ext aK;ext nX;ext fX;have hW:?uJ:=fun w e=>?A (?A ?tA);have hb0:0<fam:=hz;have hb1:fam<1073741824:=O9m
   ext j1
   refine Co (lo:=0) (n:=?vF)
    (fun i σ H2=>V6 fun ?gP ?eP ?dC ?gD=>B6 (σ=[?iE,?a0,?d7,?zI (?aU),?a0,?a1,o]) ?bC ?gN ?gX)
    ?gJ ?_ ?_
   . ext d9
     ext L
     revert σ;refine Vr ?_;intro c' v o w s2 tv hwl Fd;obtain⟨a,rfl,Wj⟩:=tv.sq;refine ?tI;have s3:?xJ pt [?d (c'%fam)]:=?l yI;refine ?qS;refine ?o8;refine(?yZ [c'%fam]);rw[qb0];exact q3
   . ext j2
noncomputable abbrev Ig:Stmt:=top 81
theorem Ce:?q [?bB,?dA,"_law_pieces","_law_old",?cM,?jS,?n7] ?u6 (Av Ig):=Bg
theorem S5[?s](F:Ey K ?sG ?sG Ig f fd)[?r] :?wL ?u6 Li:=by
 refine ?x1 Ce;obtain⟨a,l,ns,xs,rfl,hL,hS,hnl,J0,hx4,k⟩:=h;have aM:=hr.u8;ext nW
 refine⟨_,(Ae (?xA 2 ?bX)
  (Ae (?x0 ?bX (bN ?f ?f ?cE ?f ?a7 (?zX ?bA)))
  (Ae (Ci qb9 rfl (?x4 B5 ?k) (?z8 4 ?bX) (Ai (B8 (Be DU (?zB ?aH) Aj ?v) (Ae (Ap (i:=5) ?bX (Bf E9 ?K (Bf G7 (?zB ?aH) Aj)))
  (Ai (B8 (Be ?iV ?a3 (?zC ?n ?dY) rfl) (Ae (Ap (i:=6) ?bX (iX (Xy ?a3 ?dY (Xy ?dY ?a3 iV)) ?f ?f (by intro z;cases z) (Nat.le_of_ble_eq_true rfl)))
  (Ae (?A1 ?bX (Bf ?f7 (Bf ?f7 (Cv ?f2 ?n Ev ?r3) (?AA ?n ?n)) (Cv ?f2 ?n ?q5 Ev)))
  (Ae (?A3 ?bX (Bf ?f7 (Bf ?f7 (Cv ?f2 ?x Ev ?r3) (?AA ?x ?x)) (Cv ?f2 ?x ?q5 Ev)))
  (Ai (Nt (N':=[?rN,?n7]) (cap:=[none,?c 6]) (i:=2) ?bX ?f ?gC ?f ?E (?x4 B5 ?n) (?wM (?z8 0 XM)) ?N (?wM (?A9 (B7 (N':=[?k3,?n7]) (cap:=?eW) ?f ?E (Ta (K:=K) ?h) (?AD (?z8 0 xM)) ?N (?AD (X3 ?gM ?k ?h ?h ?gZ)))))))))) Bo))) Bo)))
  (?A4 (?zR ?n ?dT))))),?_⟩
 ext F
 ext nK
 refine⟨_,rfl,a,us,rfl,?d5,?qX⟩;have s0:?e H (?s3):=?l hp0;refine D7 (fun σ' H'=>σ'=[?D,?c6,rS p0,none,none,none,none]/\H'=?s3) ?_ ?eS;rintro _ _ ⟨rfl,rfl⟩;refine ?zA (fun σ' H'=>Er fun(o:Addr)=>Dn (σ'=[?D,?c6,rS p0,rS o,none,none,none]) ?cR (H' p0=?kI) (?xK o) (?zZ o ((iK ?aW).map ?u)))
 . refine⟨_,rfl,a,us,rfl,?t (s0.seq hq),?aW,by rw[qR],O9m,fun o ho=>?_⟩;exact ?x5 ⟨o,rfl,?s5 ?p2,?p2 _ _ Ab,s0.free ho,Ab⟩
 refine UJ fun o H1 s1 hp1 hoN ZW=>?_;intro sq;refine ?zA (fun σ' H'=>mO fun ?uG ?oL (ys:Am) ?vH ?uW=>Ve (σ'=?rC) ?cR (?kJ) (?xK o) (?zZ p vs) (?zZ o ?dN) (?R K H' vs (ys.map tI)) (Io xs ys os))
 . refine⟨_,rfl,l,rfl,⟨_,?aS hS⟩,?bD (K:=K) (a:=l) (xs:=?eY)
    (fun j σ H2=>mO fun ?uG ?oL (ys:Am) ?vH ?uW=>Ve (σ=?rC) ?bC (?kJ) (?xK o) (H2 p=?wO vs) (H2 o=?wO ?dN) (?R K H2 vs (ys.map tI)) (Io xs ys os))
    ⟨p0,o,us,xs,_,?j,?j,?j,rfl,s1,hp0,hoN,hp1,ZW,?J s1 r,.refl⟩ (fun j σ H2 _ hz=>by obtain⟨_,_,_,_,_,_,_,_,_,s2,_⟩:=hz;exact ?dX hS) ?_ ?_⟩
   . rintro j x σ H2 hx Di
     ext L
     ext vP;ext vW
     have hxv:x=?d ns[j]:=by
      rw[qa8,qa0 hjn]at hx;ext cC
     subst hxv;have vsl:vs.length=ys.length:=?s0
     obtain⟨hyl,hol⟩:=hT.len;refine⟨_,rfl,p,vs,rfl,?t (.of hp2),_,_,rfl,rfl,_,rfl,?_⟩;refine ?aN ?hV (fun h1=>?rU)
     have h2:1<ys.length:=by
      have:(1:Int)<?iM:=?B
      omega
     refine⟨_,rfl,_,rfl,p,vs,rfl,?t (.of hp2),_,_,rfl,rfl,_,_,rfl,rfl,(by show ?a8<?iM-1;omega),?_⟩
     obtain⟨t,ht,ht1⟩:∃t:Nat,?hM=?P/\t+1<ys.length:=by
      have a0:0<=?hM:=?v4;have a1:?hM<?iM-1:=?qG;exact⟨(?hM).toNat,O9m,O9m⟩
     refine D7 (fun σ' G=>σ'=[?D,?c6,?b0,rS o,?c (?d ns[j]),?c (?iC),o3]/\H2=G) ?_ fun Ju=>Ju _ _ ⟨by rw[←ht];rfl,rfl⟩;rintro _ _ ⟨rfl,rfl⟩
     have get:∀{i:Nat},i<ys.length->∃v,vs[i]?=?a1/\TI K H2 v (ys.getD i []):=fun {i} hi=>by
      have e:(ys.map tI)[i]?=?c (tI (ys.getD i [])):=by rw[qa8,?c9,qa4,?c9];rfl
      obtain⟨v,hv,tv⟩:=r2.get e;exact⟨v,hv,tv⟩
     obtain⟨va,hva,ZP⟩:=get (i:=t) O9m;obtain⟨vb,hvb,tvb⟩:=get (i:=t+1) ht1;have atb:V3 vs ?iW=?c vb:=Bk (j:=t+1) hvb;have ata:V3 vs ?P=?c va:=Bk (j:=t) hva;obtain⟨ab,rfl,sqb⟩:=?d1 tvb;refine⟨_,rfl,_,rfl,_,rfl,_,_,rfl,rfl,p,vs,_,_,rfl,rfl,.of hp2,atb,?iC,?o3,rfl,?A ⟨ab,_,rfl,sqb,Ei.mpr rfl⟩,by rw[Kj];decide,_,rfl,?_⟩;refine ?aN (fun h3=>?_) (fun h3=>?rU)
     have hmem:?P ∉ ?uD:=by
      intro hm;have h4:((?o3).any fun e=>eqD e (?iC))=true:=qn7.mpr ⟨?iC,qf2.mpr ⟨_,hm,rfl⟩,by simp[eqD]⟩;rw[h4]at h3;simp at h3
     have hT2:=Io.step t hT ht1 hmem;refine fun d hd=>⟨_,rfl,_,rfl,_,_,rfl,rfl,_,rfl,_,_,rfl,rfl,_,rfl,Ab,[(Sum.inl ?P,?u ?iW),(Sum.inl ?iW,?u ?P)],rfl,?bJ,?_⟩
     rw[tR]
     have e3:upd (upd H2 d ?q8) d (.dK (cK ?h5))=?hB:=by
      funext b
      by_cases hb:b=d
      . subst hb;rw[Ab,Ab]
      . rw[Ak hb,Ak hb,Ak hb]
     rw[e3];have s3:?e H2 (?hB):=?l hd;have hd3:(?hB) d=?nE:=Ab;generalize ?hB=H3 at s3 hd3;have hp3:=s3 _ _ hp2;have ho3:=s3 _ _ ho2;refine⟨_,rfl,_,rfl,_,rfl,p,vs,rfl,.of hp3,fun c1 hc1=>?_⟩;have s4:?e H3 (?lO):=?l hc1;have Am2:(?lO) c1=?wO (?gG):=Ab;generalize ?lO=H4 at s4 Am2;have Op:=?m0;refine⟨_,rfl,_,rfl,_,_,rfl,rfl,p,vs,_,_,rfl,rfl,?jZ,atb,_,rfl,_,rfl,p,vs,_,_,rfl,rfl,?jZ,ata,?M,fun c2 hc2=>?_⟩;have s5:?e H4 (?n6):=?l hc2;have Am1:(?n6) c2=?c ?oA:=Ab;generalize ?n6=H5 at s5 Am1;have B38:?xM ?gG:=by rw[Jf,qc1];omega
     have OL:?xM ?hG:=by rw[?o2,Hk,qg6];omega
     refine⟨c1,c2,_,_,rfl,rfl,?wR s5 Am2,.of Am1,?yQ Bs,fun c3 hc3=>?_⟩;have s6:?e H5 (?jX):=?l hc3;have Am0:(?jX) c3=?wO (?n8):=Ab;generalize ?jX=H6 at s6 Am0;refine⟨_,rfl,_,rfl,_,_,rfl,rfl,_,rfl,p,vs,rfl,?wR (s5.trans s6) Op,fun c4 hc4=>?_⟩;have s7:?e H6 (?jN):=?l hc4;have Al9:(?jN) c4=?wO (?hG):=Ab;generalize ?jN=H7 at s7 Al9;refine⟨c3,c4,_,_,rfl,rfl,?wR s7 Am0,.of Al9,?yF Bs,fun c5 hc5=>?_⟩;have s8:?e H7 (?mP):=?l hc5;have YM:(?mP) c5=?wO (?n2):=Ab;have r8:=kN r2 ZP tvb;generalize ?mP=H8 at s8 YM;generalize ?n2=ws at YM r8;have s28:?e H2 H8:=((((?i4).trans s5).trans s6).trans s7).trans s8;have hd8:H8 d=?nE:=((((s4.trans s5).trans s6).trans s7).trans s8) _ _ hd3
     replace r8:=?J s28 r8
     have ho8:=s28 _ _ ho2;have oa:V3 ?dN ?P=?c (?y7 t):=Bk (j:=t) (by ext wE);have ob:V3 ?dN ?iW=?c (?y7 (t+1)):=Bk (j:=t+1) (by ext wE);refine⟨_,rfl,_,rfl,_,rfl,o,_,rfl,.of ho8,?oX⟩;have s9:?e H8 (?lV):=?lT;have Al6:(?lV) e1=?wO (?eN):=Ab;generalize ?lV=H9 at s9 Al6;have ho9:=s9 _ _ ho8;refine⟨_,rfl,_,rfl,_,_,rfl,rfl,o,_,_,_,rfl,rfl,.of ho9,ob,_,rfl,_,rfl,o,_,_,_,rfl,rfl,.of ho9,oa,?M,fun e2 he2=>?_⟩;have s10:?e H9 (?jQ):=?l he2;have vK:(?jQ) e2=?c ?tY:=Ab;generalize ?jQ=H10 at s10 vK;have Bl5:?xM ?eN:=by rw[Jf,qc1,qa2];omega
     have Bl4:?xM ?kF:=by rw[?o2,Hk,qg6,qa2];omega
     refine⟨e1,e2,_,_,rfl,rfl,?wR s10 Al6,.of vK,?yQ Bs,fun e3 he3=>?_⟩;have s11:?e H10 (?l3):=?l he3;have VJ:(?l3) e3=?wO (?eN++?nD):=Ab;generalize ?l3=H11 at s11 VJ;refine⟨_,rfl,_,rfl,_,_,rfl,rfl,_,rfl,o,_,rfl,?wR (s10.trans s11) ho9,fun e4 he4=>?_⟩;have s12:?e H11 (?l8):=?l he4;have vJ:(?l8) e4=?wO (?kF):=Ab;generalize ?l8=H12 at s12 vJ;refine⟨e3,e4,_,_,rfl,rfl,?wR s12 VJ,.of vJ,?yF Bs,fun e5 he5=>?_⟩;rw[LG];have WS:?e H12 (?m1):=?l he5;have vI:(?m1) e5=?wO ((Qq os t).map ?u):=Ab;generalize ?m1=H13 at WS vI;have RC:?e H8 H13:=(((s9.trans s10).trans s11).trans s12).trans WS
     have hfo:?xK e5:=by
      have:?e H H12:=(((?oI s9).trans s10).trans s11).trans s12;exact this.free he5
     replace r8:=?J RC r8
     have VL:=RC _ _ YM;have A84:=RC _ _ hd8;have Af5:?e H H13:=?oI RC;have wsl:ws.length=?vC:=by have:=r8.length;ext z
     have hsl:=y7 ht1
     have h4s:∀q∈?eQ,q.length<=4:=fun q hq=>by
      rcases aG hq with z | z
      . exact hT.le4 hx4 q z
      . subst z;exact ?a2
     refine(?wY c5 (?zP VL));have hDH:?fQ:=Af5.free hD
     let Bh0:?H:=fun i zs τ G=>B6 (?e H13 G) ?uY (?R K G zs ((?pC ?lJ).map tI)) (?wX ?rR)
     refine Cy (K:=K) (a:=c5) (xs:=ws) Bh0
      ?bW (fun i zs τ G _ hz=>by obtain⟨g1,_⟩:=hz;exact ?wR g1 VL) ?_ ?_
     . rintro i x zs τ G hx Di;ext e5;intro g1 Ef rG o' Fd;have hi:?qE:=?e1;have hi2:i<?vC:=O9m
       have hix:(?y3 ?eQ)[i]?=?c (tI ?oW):=?z4 ?iQ
       obtain⟨x',hx',tx⟩:=r8.get hix;ext j9;have hq4:=h4s _ (qd3 hi2);generalize hqe:?oW=q at tx hq4;obtain⟨ax,rfl,sqx⟩:=?d1 tx;have sqG:Ed K G ax (q.map ?u):=g1.seqT sqx;refine⟨_,rfl,ax,rfl,(?zS sqG),?u1⟩
       let Bg9:?H:=fun m ys' τ' G'=>B6 (?e G G') (G' D2=?wO ys') (ys'=((q.take m).map (FQ t)).map ?u) (Er fun o=>τ'=?rR)
       refine Qd (K:=K) (a:=ax) (xs:=q.map ?u) Bg9
        ?sF (fun m ys' τ' G' _ hz=>by obtain⟨g2,_⟩:=hz;exact g2.seqT sqG) ?_ ?_
       . rintro m y ys' τ' G' hy Di;revert τ';refine Hv ?_;intro g2 YT hys o'' Fd;have hm:m<q.length:=by have:=?mN;ext z
         have hyv:y=?d q[m]:=by
          rw[qa8,qa0 hm]at hy;simpa using hy.symm
         subst hyv;have Al7:G' d=?nE:=(g1.trans g2) _ _ A84;refine⟨_,rfl,d,rfl,?t ⟨_,?t Al7⟩,_,rfl,_,rfl,_,Ao9 (?t Al7),?_⟩
         have ev:(Option.map ?u (?uL)).getD (?u q[m])=?u (FQ t q[m]):=by
          rw[←SV];cases ?uL<;>rfl
         rw[ev];refine⟨YT,?yM ?c3,g2.turn Le,Ab,?_,_,rfl⟩;rw[qf5,qa0 hm,qb0,qb0,hys];rfl
       . rintro ys' τ' G' ⟨g2,YT,hys,_⟩;rw[qa2,qd2]at hys;refine⟨D2,_,rfl,?t ⟨.of YT,?sN⟩⟩;have g3:?e G' (upd G' T2 (?y ys')):=?l hT2;have Bc0:=(g1.trans g2).trans g3;refine⟨?u3,?c3 (by have:=rG.length;rw[this,qa2,qa2,qc1];omega),Bc0.turn hD,Ab,?_,_,rfl⟩
         have e5:(?tM ?b1).map (?lJ)=?pC (?lJ)++[q.map (FQ t)]:=by
          rw[qf5,?iQ,qb0,hqe];rfl
         rw[e5];refine Ka (?u3) (?J (?eR) rG) (?cJ);rw[←hys];exact ?Z
     . rintro zs τ G ⟨g1,Ef,rG,_⟩;rw[wsl,qd2]at rG;exact⟨D,e5,zs,Sh ys t,Qq os t,_,_,_,rfl,Af5.trans g1,hDH,hfo,Ef,g1 _ _ vI,rG,hT2⟩
   . rintro σ H2 Di;ext vP;exact ?x5 ⟨p,o,vs,ys,os,o1,o2,o3,rfl,s2,hp,ho,hp2,ho2,r2,hT⟩
 refine Ab8 fun p o vs ys os o1 o2 o3 H2 s2 hp ho hp2 ho2 r2 hT=>?_;intro sq;ext w5;have sR:?xJ R [?g3,?m o]:=?l7;exact k R p o vs ys os _ (?Y sR) Ab hp ho (sR _ _ hp2) (sR _ _ ho2) (?J sR r2) hT
noncomputable abbrev Pb:Stmt:=top 82
theorem J8:?q [?bB,?cF,"_law_many",?rN] ?pI (Av Pb):=Bg
theorem bQ[?s](F:Ey K ?u8 ?u8 Pb f fd)[?r] :?wL ?pI Xd:=by
 refine ?x1 J8;obtain⟨a,xs,k,rfl,hL,J0,hk0,kq⟩:=h;ext nW
 refine⟨_,(Ae (?A1 J8.nd Aj)
  (Ae (Ci qb9 rfl ?bS (?z8 3 J8.nd) (Ai (B8 (?A7 (Az ?t9 T.n_max AU (?wV Aj (?zB ?dT))) (?zH Cl ?k)) (Ai (?A1 J8.nd (?zH Cl ?n))) Bo)))
  ?fO)),?_⟩
 ext F
 ext nK
 refine ?xE [?D,iS k,iS 0,none];ext e6;refine ?zA (fun σ' H'=>Er fun o3=>?xN σ' ?aW/\?cK)
 . let Bg8:?bE:=fun i σ G=>Er fun o3=>?xN σ i/\H=G
   refine⟨_,rfl,a,rfl,?r7,?bD (K:=K) (a:=a) (xs:=us) Bg8 ⟨?j,rfl,rfl⟩ (fun i σ G _ ⟨_,_,e⟩=>by rw[←e];exact hq) ?_ ?_⟩
   . rintro i v σ G hv Di
     ext L
     obtain⟨o3,rfl,rfl⟩:=Di;have hi:=?hN;have VH:?qW:=O9m
     obtain⟨dv,jG,rv⟩:=?uK
     have edv:dv=tI (?jM):=by
      rw[qa8,qa0 VH]at jG;rw[qa4,qa0 VH];simpa using jG.symm
     subst edv;obtain⟨t,ts,rfl,ht,rt⟩:=id rv;have tl:ts.length=?h9:=by have:=rt.length;simpa[D9]using this
     refine⟨_,rfl,t,ts,rfl,?A ht,_,_,rfl,_,rfl,_,_,rfl,rfl,rfl,_,rfl,?_⟩;rw[tl];ext fU
     . have h3:?vE:=by
        have:?yL 1:=?aP
        unfold Dq;split at this<;>split<;>omega
       refine⟨_,rfl,_,_,rfl,rfl,rS t,?_,rfl⟩;rw[DR h3,qb1];rfl
     . have h3:¬?vE:=by
        have:¬?yL 1:=?aP
        unfold Dq;split at this<;>split<;>omega
       refine⟨?c (?m t),?_,rfl⟩;rw[IW h3];rfl
   . rintro σ G ⟨o3,rfl,rfl⟩;rw[qR];exact ?x5 ?rY
 refine uK fun o3=>?_;intro sq;exact(?zU kq)
noncomputable abbrev L5:Stmt:=top 85
theorem Ch:?q [?bB,?cM,?n4,?oV,?t7,?cF,"_law_some",?fY] ?lH (Av L5):=Bg
theorem Ya[?s](F:Ey K ?mZ ?mZ L5 f fd)[?r] :?wL ?lH Oy:=by
 refine ?x1 Ch;obtain⟨a,xs,c,rfl,hL,hsh,J0,kq⟩:=h;ext nW
 refine⟨_,(Ae (?A1 ?b2 (?A6 (?zR Aj (Aa Aj (Aa Aj ?gY))) (?zH E9 ?k)))
  (Ae (?x0 ?b2 (PEw.h (RW (K:=K) (nO (ns:=?oE) ?E) ?n ?w)))
  (Ae (Ap (i:=1) ?b2 (?zH Nw ?k))
  (Ae (?xS ?b2 ?eJ)
  (Ae (Ci qb9 rfl (?x9 ?aH) (?yT ?b2) (Ae (Nt (N':=[?jS,?bB,?oV]) (cap:=[none,?eI,?c 3]) (i:=6) ?b2 ?f ?gC ?f ?E (?x9 (?zX ?bA)) (?wM (?z8 0 XI)) (?wM (Kb (?A7 (?zB (?zX (Bc ?I ?k ?h ?w))) ?n))) ?h2)
  (Ae (B8 (?zF DU ?x) (Ai (Ci qb9 rfl (?x9 (?zX ?a3)) (?z8 7 ?b2) (Ai (Nt (N':=[?jS,?bB,?fY,?t7,?cF]) (cap:=[none,?eI,?c 7,?c 4,?c 5]) (i:=6) ?b2 ?f ?gC ?f ?E (?x4 B5 ?b8) (?wM (?z8 0 xJ)) (?wM (Kb (Be En (?A6 (?zC ?k ?h) ?n) (?A6 (?zC ?k (Bc ?a4 ?x ?n ?w)) (?zH G7 ?K)) ?v))) ?h2)))) Bo)
  (Ae (?wU ?gU (Bd (?zR ?eJ ?aJ)))
  (Ae (?xS ?b2 (Bf ?e9 ?K (C7 (?zX (?zC ?b8 (Bf E9 ?k ?gU))))))
  (Ai (Ap (i:=1) ?b2 (Bf Nw ?k ?gU))))))))
  (?A4 (?zR ?K ?aJ))))))),?_⟩
 ext F
 ext nK
 have c0:0<=c%4:=?kU;have c1:c%4<4:=?g6
 obtain⟨sz,need,hsz,Al0,Bq1⟩:∃sz need:Nat,V3 [?fE,?u 2,?u 3,?u 4] (c%4)=?fF/\V3 [?fE,?fE,?fE,?u 2,?u 3] ?lF=?dE/\((sz=0/\need=0)\/(sz=2/\need=0)\/(sz=3/\need=2)\/(sz=4/\need=3)):=by
  have:c%4=0\/c%4=1\/c%4=2\/c%4=3:=O9m
  rcases this with e | e | e | e<;>rw[e]
  . exact(?y8 0 0)
  . exact(?y8 2 0)
  . exact(?y8 3 2)
  . exact(?y8 4 3)
 refine⟨?M,?qV⟩;have s1:?e H (?tL):=?l hT1;refine⟨_,rfl,_,_,rfl,rfl,(?wZ 4),T1,_,_,_,rfl,rfl,?Z,hsz,?_⟩;generalize ?tL=H1 at s1;refine⟨?M,?sN⟩;have s2:?e H1 (?uB):=?l hT2;refine⟨_,rfl,T2,_,_,_,rfl,rfl,?Z,Al0,?_⟩;generalize ?uB=H2 at s2;refine(?zK ?g0);refine⟨?M,fun T3 YR=>?_⟩;have s3:?e H2 (?jU):=?l YR;have Am4:(?jU) T3=?c ?aA:=Ab;generalize ?jU=H3 at s3 Am4;have WT:?e H H3:=(?bM).trans s3;refine D7 (fun σ' H'=>Er fun(m:Int)=>σ'=[?D,iS m,?fF,?dE,rS T3,none,none,none]/\H3=H') ?_ fun Ju=>Ju _ _ ?rY;refine uK fun m0=>?_;intro sq;ext nT
 let Bg7:?bE:=fun k σ G=>UG fun(m:Int) ?eP (p:?aQ) (o5 o6 o7:?aT)=>Dn (σ=[?D,iS m,?fF,?dE,?a1,o5,o6,o7]) ?cN (TI K G v p) (Part xs need p) (p.length=k)
 refine Co (lo:=0) (n:=(?lF).toNat) Bg7
  ⟨m0,?m T3,[],?j,?j,?j,rfl,WT,?bI (.of Am4),?qC,rfl⟩ ?_ ?_
 . rintro k σ G hk Di
   ext L
   ext vZ;have GQ:k<sz:=O9m
   rw[show ?a8+?fN=?fN by omega];have mL:=?dO sG hL;refine ?zA (fun σ' G'=>Jj fun ?hO ?jW=>Dn (σ'=[?D,iS m,?fF,?dE,?a1,?k2,?b9,o7]) (?e G G') (G' D=?wO (?dP)) (?y2 1000) ?k7)
   . refine⟨_,rfl,a,us,rfl,?t (sG.seq hq),_,rfl,O9m,O9m,?Q⟩
     let Bg6:?H:=fun i ys τ G1=>Dn (i<=xs.length) (?e G G1) (G1 D=?cV) ((∃fs:?aQ,ys=?dP/\?y2 i/\?uP)) (?wX [o,?D,?dE])
     refine Zh Bg6
      ⟨?a2,?aB,Ab,?u4,?j,rfl⟩ ?_ ?_
     . rintro i ys τ G1 hi ⟨_,g1,Eg,⟨fs,rfl,hfl,hfs⟩,o,rfl⟩;have hi2:?qW:=O9m
       obtain⟨us',w,A51,hw,tw⟩:=?dJ (?dO g1 mL) (i:=?aD) O9m O9m;rw[?fZ]at tw;obtain⟨b,rfl,hb⟩:=?d1 tw;refine⟨_,rfl,_,rfl,a,us',_,_,rfl,rfl,A51,hw,b,_,rfl,?A hb,_,rfl,rfl,_,rfl,?_⟩;refine ?aN ?hV (fun h1=>⟨O9m,g1,Eg,?vG,_,rfl⟩)
       have h2:?h9=need:=by
        have:(((?jM).map ?u).length:Int)=?hX:=?B
        rw[qa2]at this;omega
       refine⟨_,rfl,Eg,?dB,O9m,g1.turn hD,Ab,⟨fs++[?aD],?l9,?h0,?q6⟩,_,rfl⟩;rcases ?u0 with q | q
       . exact hfs f q
       . have:f=?aD:=?lR
         subst this;refine⟨O9m,O9m,?_⟩;rw[?fZ];exact h2
     . rintro ys τ G1 ⟨_,g1,Eg,⟨fs,rfl,hfl,hfs⟩,_⟩;exact ?x5 ⟨D,fs,rfl,g1,Eg,O9m,hfs⟩
   rintro _ G1 ⟨D1,fs1,rfl,g1,Eg,hf1,Al4⟩;have tp1:=?tO;obtain⟨av,rfl,sqv⟩:=?d1 tp1;refine qw7 (fun σ' G'=>Og fun ?hO ?jW ?mA=>Hq (σ'=?sV) (?e G1 G') (G' D=?wO (?dP)) (?y2 1000) ?k7 ((0<need->∀f∈fs,∀i:Nat,i<k->?tT))) ?O ?_
   . ext aK;ext a5
     . have hn:0<need:=by
        have:?a8<?hX:=?B
        omega
       ext nT
       let Bg5:?bE:=fun i σ G'=>Og fun ?hO ?jW ?mA=>Hq (σ=?sV) (?e G1 G') (G' D=?wO (?dP)) (?y2 1000) ?k7 ((∀f∈fs,∀i':Nat,i'<i->?pJ i' 0=?yV i' (k-1)))
       refine Co (lo:=0) (n:=(?fN).toNat) Bg5
        ⟨D1,fs1,_,rfl,?gT _,Eg,hf1,Al4,fun f _ i' h=>O9m⟩ ?_ ?_
       . rintro i σ G2 hi Di
         ext L
         ext e4;intro D2 Tz o8 g2 Le hf2 LL OV Fd;have hik:i<k:=O9m
         rw[show ?aD=?bL by omega];have hip:i<p.length:=O9m
         have hpi:?m2=p[i]:=by rw[qa4,qa0 hip];rfl
         obtain⟨q0,q1,q2⟩:=hP.ok p[i] (qd3 hip);refine(?wY D2 (?zS ?k5))
         let Bg4:?H:=fun j ys τ G3=>B6 (?e G2 G3) (G3 D=?cV) ((∃fs:?aQ,ys=?dP/\?y2 j/\∀f∈fs,f∈Tz/\?tT)) (?wX [o,?D,?kO,rS av,?k2])
         refine Kk (K:=K) (a:=D2) (xs:=?jD) Bg4
          (?xR ?u4) (fun j ys τ G3 _ hz=>by obtain⟨g3,_⟩:=hz;exact ?wR g3 Le) ?_ ?_
         . rintro j x ys τ G3 hx ⟨g3,aO,⟨fs,rfl,hfl,hfs⟩,o,rfl⟩;have hj:j<Tz.length:=?dZ
           have hxv:x=?d ?iA:=by
            rw[qa8,qa0 hj]at hx;ext cC
           subst hxv;obtain⟨f0,f1,f2⟩:=LL ?iA (qd3 hj);have gG3:=(g1.trans g2).trans g3;have Am6:=?dO gG3 mL;obtain⟨us4,w4,A50,hw4,tw4⟩:=?dJ Am6 f0 f1;obtain⟨b4,rfl,hb4⟩:=?d1 tw4;obtain⟨us5,w5,A49,hw5,tw5⟩:=?dJ Am6 q0 q1;obtain⟨b5,rfl,hb5⟩:=?d1 tw5;have ga:∀{l:?aQ}{t:Nat},t<l.length->V3 (l.map ?u) ?P=?zI (l.getD t 0):=fun {l t} h=>Bk (j:=t) (by rw[qa8,qa0 h,qa4,qa0 h];rfl);have i4:i<(?pG).length:=O9m
           have k5:k-1<(?rD).length:=O9m
           refine⟨_,rfl,_,rfl,a,us4,_,_,rfl,rfl,A50,hw4,_,rfl,b4,_,_,_,rfl,rfl,hb4,ga i4,_,rfl,_,rfl,_,rfl,av,_,_,_,rfl,rfl,(?eR).seqT sqv,(by rw[ga hip,hpi]),a,us5,_,_,rfl,rfl,A49,hw5,_,rfl,_,_,rfl,rfl,b5,_,_,_,rfl,rfl,hb5,(by rw[show ?fN-1=((k-1:Nat):Int) by omega];exact ga k5),rfl,_,rfl,?_⟩;refine ?z1 ⟨g3,aO,?vG,_,rfl⟩;have h3:(?pG).getD i 0=(?rD).getD (k-1) 0:=?aP
           refine⟨_,rfl,aO,?dB,g3.turn hD,Ab,⟨fs++[?iA],?l9,?h0,?q6⟩,_,rfl⟩;rcases ?u0 with q | q
           . exact hfs f q
           . have:f=?iA:=?lR
             subst this;exact⟨qd3 hj,by rw[hpi];exact h3⟩
         . rintro ys τ G3 ⟨g3,aO,⟨fs,rfl,hfl,hfs⟩,_⟩;rw[qa2]at hfl;refine⟨D,fs,_,rfl,?eR,aO,O9m,fun f hf=>LL f (?jV).1,fun f hf i' hi'=>?_⟩;by_cases e:i'<i
           . exact OV f (?jV).1 i' e
           . have:i'=i:=O9m
             subst this;exact(?jV).2
       . rintro σ G2 Di;ext e4;intro D2 Tz o8 g2 Le hf2 LL OV Fd;exact ?x5 ⟨D2,Tz,_,rfl,g2,Le,hf2,LL,fun _ f hf i hi=>OV f hf i O9m⟩
     . exact ?x5 ⟨D1,fs1,_,rfl,?gT _,Eg,hf1,Al4,fun hn=>?cO (show ?a8<?hX by omega) (?B)⟩
   rintro _ G2 ⟨D2,Tz,o8,rfl,g2,Le,hf2,LL,OV⟩;refine⟨_,rfl,D2,_,rfl,?tP,rfl,_,rfl,?_⟩;ext a5
   . refine⟨?M,fun e1 vL=>⟨_,rfl,?M,?t3⟩⟩;have g3:?e G2 (?xO G2 e1):=?lT;have g4:?e (?xO G2 e1) (upd (?xO G2 e1) R (?y [?m e1,?d m])):=?l7;exact kq R (?m e1) m [] _ ((?oP g3).trans g4) (?Z) (?bI (?wR g4 Ab)) ((?qC (need:=0)).fits (size:=0) rfl O9m)
   . have hfl:0<Tz.length:=by
      rw[qa2]at h1;have:¬Tz.length=0:=fun z=>h1 (by rw[z];simp);omega
     have m0':0<=m%?i7:=?v4;have m1':m%?i7<?i7:=?qG;obtain⟨t,ht⟩:=qk3 m0';have cW:t<Tz.length:=O9m
     have hat:V3 (?jD) (m%?v7)=?c (?qK):=by
      rw[qa2,ht];exact Bk (j:=t) (by rw[qa8,qa0 cW];rfl)
     have tK:?v7=?i7:=by rw[qa2]
     refine⟨_,rfl,_,rfl,_,rfl,_,rfl,D2,_,rfl,?tP,_,_,rfl,rfl,(by rw[tK];omega),D2,_,_,_,rfl,rfl,?k5,hat,?M,?oX⟩;have g3:?e G2 (upd G2 e1 (?y [?qK])):=?lT;have Az3:=(?eR).seqT sqv;refine⟨av,e1,_,_,rfl,rfl,Az3,?Z,Bs (by rw[qa2];ext a6),fun P G4 g4 hP4=>?_⟩;refine⟨_,rfl,_,rfl,D2,_,rfl,?t (?wR (g3.trans g4) Le),_,_,rfl,rfl,(by rw[tK];exact⟨O9m,O9m⟩),?_⟩;refine⟨_,?m P,p++[Tz[t]],_,_,_,rfl,?oP (g3.trans g4),?bI (by rw[qb0];exact hP4),hP.snoc (LL _ ?sD) (fun hn i hi=>?_),?h0⟩;rw[hpl];exact OV hn _ ?sD i O9m
 . rintro σ G Di;ext vZ;ext w5;have g1:?e G (upd G R (?y [v,?d m])):=?l7;exact kq R v m p _ (sG.trans g1) (?Z) (?tO) (hP.fits hpl O9m)
noncomputable abbrev Id:Stmt:=top 3
theorem Sq:?q ?gQ ?gQ (Av Id):=Bg
theorem S3[?s](F:Ey K ?kK ?kK Id f fd)[?r][?wA]:?wN ?gQ (Gu K):=by
 refine ?x1 Sq;obtain⟨x,d,b,rfl,hx,k⟩:=h;refine(?zW (Mb (?zD Fv ?W) (Nv (NL iY Sz Aj ?h ?k))));refine⟨_,rfl,x,d,rfl,hx,_,rfl,?_⟩;ext nR
 . obtain⟨i,rfl⟩:=FL e;cases (show x=?b5 from hx);ext aK;refine ?aN (fun e1=>?_) (fun e1=>?_)
   . refine ?p3;have e2:?jL=?jE:=by show(?X (0<=i)&&?jE)=_;rw[e1];rfl
     ext cD
   . have e2:?jL=false:=by show(?X (0<=i)&&?jE)=_;simp at e1;ext a6
     ext cD
 . have e2:belowD d b=false:=by
    cases d<;>first | rfl | (exfalso;exact e rfl)
   ext cD
noncomputable abbrev FZ:Stmt:=top 15
theorem Wu:?q [?dR,?cW,?m3,?c0,?a9] ?hW (Av FZ):=Bg
theorem sD[?s](F:Ey K ?jR ?jR FZ f fd)[?r][?w0]:?wN ?hW (IP K):=by
 refine ?x1 Wu;obtain⟨a,b,ms,ns,rfl,ha,hb,hm,hn,k⟩:=h
 refine⟨_,(Ae (?A1 Wu.nd (C8 HU ?f ?lP Oe ?W))
  (Ae (gC (Ci qb9 rfl ?oK (?xU Wu.nd (?z8 4 Wu.nd)) (Ai (Bw (?zD Qb (Aa ?n (?wV ?x ?K)))))))
  ?fO)),?_⟩
 ext F
 refine⟨_,rfl,a,?cY,rfl,ha,?Q⟩;have KY:b≠D:=Ar hb hD;refine ?A ⟨b,?gR,(by rw[Ak KY];exact hb),?kN⟩;refine⟨_,rfl,b,o,?gR,rfl,Ab,?_⟩
 let Bg3:?bE:=fun i σ H1=>Jj fun o1 o2=>B6 (σ=[?D,?dV,?b9,o1,o2]) (H1 b=?y9 ?gR) (H1 D=?yD (?uA)) ((∀c q,c≠b->c≠D->?sZ))
 refine U2 (d:=b) (o:=o) (kvs:=?gR) Bg3
  ⟨?j,?j,rfl,Ab,?_,?_⟩ (fun i σ H1 _ hz=>by obtain⟨_,_,_,e,_⟩:=hz;exact e) ?_ ?_
 . rw[?u9,Ab];rfl
 . intro c q n1 n2 e;rw[?gK,Ak n2];exact e
 . rintro i kk x σ H1 p hx Di hp
   ext L
   ext e3;intro o1 o2 hb1 Eg hk1 Fd;ext nV;have npb:b≠p:=Ar hb1 hp;have npD:D≠p:=Ar Eg hp;have hlt:?kH:=?p8;ext fR;refine⟨_,rfl,_,rfl,_,rfl,D,?uA,q.1,q.2,rfl,(by rw[Ak npD];exact Eg),?_,?_⟩
   . have:=eK (ns.take i) ms;rw[qc1]at this;omega
   . refine⟨_,_,rfl,?_,?_,fun c r n1 n2 e=>?_⟩
     . rw[Ak KY,Ak npb];exact hb1
     . rw[Ab,KQ hq]
     . rw[Ak n2,Ak (Ar (?sS) hp)];exact ?sS
 . rintro σ H1 Di;ext e3;intro o1 o2 hb1 Eg hk1 Fd;rw[R7,qd2]at Eg;refine⟨hb1,_,rfl,k D _ hD (fun c q e=>?_) (by rw[?u9];exact Eg)⟩;by_cases z:c=b
   . subst z;rw[hb]at e;cases e;exact Ab
   . rw[Ak z];exact hk1 c q z ?oG e
noncomputable abbrev Gz:Stmt:=top 33
theorem Rb:?q ?i6 ?i6 (Av Gz):=Bg
theorem Rt[?s](F:Ey K ?kQ ?kQ Gz f fd)[?r][?w9]:?wN ?i6 (Ea K):=by
 refine ?x1 Rb;obtain⟨a,i,xs,rfl,hL,J0,k⟩:=h;obtain⟨us,hq,Yw⟩:=?v2;obtain⟨_,us',z,hq',r⟩:=?gA;refine(?zW (B7 (N':=[?c0,"piece","k"]) (cap:=?sE) ?f ?E (?yK Sx ?W) (?wM (?z7 (?A5 0 UW) (?A5 1 UW))) (?wM (Kb (?A7 (?zD Fu ?aJ) ?n))) ?h2));cases z;refine(?wY a ⟨us',hq'⟩);have A52:us'.length=xs.length:=?hJ
 let Bg2:?H:=fun j ys τ H1=>Dn (j<=us'.length) ?bV ?bH (ys=(Rr xs i j).map ?u) (?xG [o1,o2,iS i])
 refine aT (K:=K) (a:=a) (xs:=us') Bg2
  ⟨?a2,?aB,Ab,rfl,?j,?j,rfl⟩ (fun j ys τ H1 _ hz=>by obtain⟨_,s1,_⟩:=hz;exact ?aS hq') ?_ ?_
 . rintro j v ys τ H1 p hv Di hp;revert τ;refine UZ ?_;intro hj s1 Eg hys o1 o2 Fd;have hj2:j<us'.length:=?hN;have hj3:j<xs.length:=O9m
   obtain⟨dv,jG,rv⟩:=?uK
   have edv:dv=tI (?mM):=by
    rw[qa8,qa0 hj3]at jG;rw[qa4,qa0 hj3];simpa using jG.symm
   subst edv;have sp:?zL p [?d j,v]:=?b4;ext fR;refine⟨_,rfl,v,?pS,rfl,?A (?dO (?f1) rv),_,rfl,rfl,_,rfl,?_⟩;rw[show(?pS).length=?pE from ?mO];have ZZ:(?xB p [?d j,v]) D=?cV:=?jC;have yl:ys.length<=j:=by rw[hys,qa2];exact Fn ..
   ext fU
   . have h3:?uZ:=?aP
     refine⟨_,rfl,ZZ,?aF,O9m,?yW ?f1,Ab,?_,_,_,rfl⟩;rw[DR h3,qb0,hys];rfl
   . have h3:¬?uZ:=?aP
     refine⟨O9m,?f1,ZZ,?_,_,_,rfl⟩;rw[IW h3];exact hys
 . rintro ys τ H1 ⟨_,s1,Eg,hys,_⟩;rw[A52]at hys;refine k D H1 hD s1 ?_;rw[Eg,hys];rfl
noncomputable abbrev F3:Stmt:=top 37
theorem O6:?q ?g4 ?g4 (Av F3):=Bg
theorem Pg[?s](F:Ey K ?jH ?jH F3 f fd)[?r][?wA]:?wN ?g4 (Jd K):=by
 refine ?x1 O6;obtain⟨a,n,f,rfl,hq,hn,k⟩:=h;refine⟨_,(?A4 (Mb (?z9 Db) (Mb (Lm En ?bA ?k ?v) (Nv (?AC (B7 (N':=[?a9]) (cap:=?eM) ?f ?E ?bS (?wM (?z8 0 oB)) ?N (?wM (?zD Fv ?W)))))))),?_⟩;refine⟨_,rfl,?gI,?dL,dL n f,rfl,?kM,PL hq,_,rfl,?_⟩;refine BY (by simp[JD,dL]) ?_;refine⟨_,rfl,a,_,rfl,?d5,_,rfl,rfl,_,rfl,?_⟩;refine BY (isI (by rw[Bu])) ?_;ext fT
 let Bg1:?H:=?zG ?eG
 refine Cy (K:=K) (a:=a) (xs:=VI n f) Bg1
  ?bW (?x7 _) ?_ ?_
 . ext fW;ext fS;obtain⟨hi,rfl⟩:=Va hx;refine⟨_,rfl,_,?d (f i),rfl,rfl,Eg,?c3 ?eF,?iG,Ab,?_,_,rfl⟩;rw[qu4,qb0];rfl
 . ext fV;refine⟨D,?o9,rfl,.of Eg,?_⟩;rw[?z3 ?o9];exact k H1 s1
noncomputable abbrev Uh:Stmt:=top 39
theorem fY:?q ?n5 ?n5 (Av Uh):=Bg
theorem GG[?s](F:Ey K ?qQ ?qQ Uh f fd)[?r](cC:Has P w K mg ?i ?lZ ?hR 1 (z7 K)):?wN ?n5 (Hy K):=by
 refine ?x1 fY;obtain⟨v,h,w,f,rfl,hv,hh,hw,k⟩:=h;refine(?zW (B7 (N':=["j",?aM]) (cap:=?mD) ?f ?E (?x9 ?aJ) (?wM (?z8 0 XT)) ?N (?wM (?zD cC (Aa ?k ?W)))));ext j3
 let Bg0:?H:=fun i ys τ H1=>Er fun as=>B6 (as.length=i) (ys=?b6) (Rows H H1 D as h (fun i j=>f j i)) (?wX [o,?a1])
 refine Fp Bg0
  ?kT ?_ ?_
 . ext wD;have hi2:i<w:=O9m
   refine⟨_,rfl,_,rfl,v,h,w,i,f,?uO,?pR,hh,hi2,?mQ⟩;ext nJ
 . ext nL
noncomputable abbrev gA:Stmt:=top 41
theorem rA:?q ?g8 ?g8 (Av gA):=Bg
theorem SD[?s](F:Ey K ?kC ?kC gA f fd)[?r](Y1:Has P w K mg ?i ?m6 ?iL 1 (Xa K)):?wN ?g8 (bF K):=by
 refine ?x1 rA;obtain⟨n,rfl,hn,k⟩:=h;refine(?zW (B7 (N':=["i",?nA]) (cap:=?mD) ?f ?E (?x9 ?W) (?wM (?z8 0 XS)) ?N (?wM (?zD Y1 (Aa ?k ?W)))));ext j3
 let Bf9:?H:=fun i ys τ H1=>Er fun as=>B6 (as.length=i) (ys=?b6) (Rows H H1 D as n (fun i j=>?h8)) (?wX [o,iS n])
 refine Fp Bf9
  ?kT ?_ ?_
 . ext wD;refine⟨_,rfl,_,rfl,n,i,?uO,hn,?mQ⟩;ext nJ
 . ext nL
noncomputable abbrev Nn:Stmt:=top 43
theorem F7:?q [?gV,?aM,?bF,?m3,?a9,?aX] ?kX (Av Nn):=Bg
theorem d8[?s](F:Ey K ?k1 ?k1 Nn f fd)[?r][?nQ]:?wN ?kX (Qs K):=by
 refine ?x1 F7;obtain⟨x,v,h,w,a,f,rfl,hx,hv,hh,hw,hm,k⟩:=h;obtain⟨tb,us,rfl,hq,Yw,N6⟩:=?fH
 refine⟨_,(Ae (?x0 ?iX (Bf NQ (E8 ?gY) ?n))
  (Ae (Ci qb9 rfl (?yO ?dF) (?z7 (?A5 4 ?iX) (?yT ?iX)) (Ai (?A3 ?iX (?zD Il (Aa Aj (Aa ?x (?wV ?K ?a3)))))))
  (?A4 ?x))),?_⟩
 ext F
 refine ?zA (fun σ' H'=>Er fun T=>B6 (σ'=[rS x,rS tb,iS w,rS T,none,none]) (?xK T) ?cR (?zZ T (VI w fun _=>0)))
 . refine⟨?M,fun l0 hl0=>?_⟩;have s0:?e H (?y5 l0 [?d 0]):=?l hl0;refine⟨_,rfl,l0,_,_,rfl,rfl,Ab,O9m,O9m,?hQ,?tU⟩;refine ?x5 ⟨T,rfl,s0.free hT,?s5 (?l hT),?_⟩;rw[Ab,qe4,zH]
 refine v9 fun T0 H1 hT0 s1 hT1=>?_;intro sq;refine⟨_,rfl,_,rfl,x,tb,rfl,⟨_,?aS hx⟩,(?zS ?f4),?_⟩
 refine tO (K:=K) (a:=x) (b:=tb) (xs:=VI h a) (ys:=us) (n:=h) (by rw[Bu,Yw,qw4]) (fun i σ H2=>Og fun T o1 o2=>B6 (σ=[rS x,rS tb,iS w,rS T,o1,o2]) (?xK T) ?bC (H2 T=?wO (VI w fun j=>Al (fun k=>a k*f k j) i)))
  ⟨T0,?j,?j,rfl,hT0,s1,hT1⟩ (fun i σ H2 _ hz=>by obtain⟨_,_,_,_,_,s2,_⟩:=hz;exact⟨?dX hx,?dX hq⟩) ?_ ?_
 . rintro i u v σ H2 pr hu hv Di hp;ext j8;intro T o1 o2 hT s2 hT2 Fd;obtain⟨hi,rfl⟩:=Va hu;obtain⟨_,b,rfl,hb⟩:=N6 i _ hv;have sp:?xJ pr [?d (a i),?m b]:=?b4;ext nP;refine⟨_,rfl,_,rfl,_,rfl,1,a i,T,b,w,_,f i,rfl,?wR sp hT2,(?nC).seq hb,O9m,fun j hj=>⟨?sY,hm i j hi hj⟩,fun D H3 hD s3 aO=>?_⟩;refine⟨D,_,_,rfl,(?nC).free hD,(?nC).trans s3,?_⟩;rw[aO]
   congr 2
   refine P0 fun j hj=>?_;show 1*_+_=Al _ i+_;rw[qd1]
 . rintro σ H2 Di;ext j8;intro T o1 o2 hT s2 hT2 Fd;exact⟨_,rfl,k T H2 hT s2 hT2⟩
noncomputable abbrev O8:Stmt:=top 47
theorem Nl:?q [?d2,?iS,?a9,"i","face"] ?tS (Av O8):=Bg
theorem bO[?s](F:Ey K ?oY ?oY O8 f fd)[?r][?w0]:?wN ?tS (Sl K):=by
 refine ?x1 Nl;obtain⟨a,v,ms,fs,n,rfl,ha,hv,hm,kq⟩:=h;obtain⟨af,rfl,sq⟩:=?d1 hv;refine⟨_,(Ai (Ci qb9 rfl (?yK NH ?aJ) (?xU Nl.nd (?z8 4 Nl.nd)) (Ai (Bw (?zD Qb (Aa ?h (?wV ?K (X2 (?A7 (Bf E9 ?x Aj) Aj) ?n (My Hx ?n))))))))),?_⟩
 let Bf8:?bE:=fun i σ H1=>∃o1 o2,σ=?s2/\Q1 a H H1/\H1 a=?yD (?qJ)
 refine⟨_,rfl,af,rfl,(?zS sq),lP (K:=K) (a:=af) (xs:=?dP) Bf8
  ⟨?j,?j,rfl,fun _ _ _ e=>e,ha⟩ (fun i σ H1 _ ⟨_,_,_,s1,_⟩=>Ed.x s1 ha sq) ?_ ?_⟩
 . rintro i x σ H1 p hx Di hp
   ext L
   refine ex2 ?_ Di;clear Di;intro o1 o2 Di;refine Bc8 ?_ Di;clear Di;rintro rfl s1 ha1;have hi:i<fs.length:=?dZ
   have hxv:x=?fP:=by
    ext jA;rw[qa4,?c9];ext cC
   subst hxv;have sp:?zL p [?b5,?fP]:=?b4;have ha2:=sp _ _ ha1;have hl:=Ut ms fs n i;ext fR
   have fin:∀m,m=iT n i->P7 K [?gI,?fP,?d m] (?xB p [?b5,?fP]) (fun v H'=>∃o1 o2,([?D,rS af,iS n,?kO,?c (?fP)]:St)=?s2/\Q1 a H H'/\H' a=?yD (Hm ms fs n ?b1)) E0:=by
    intro m hm2;subst hm2;refine⟨a,?qJ,_,_,rfl,ha2,O9m,_,_,rfl,fun c q n1 e=>?_,Ab⟩;rw[?gK];exact sp _ _ (s1 c q n1 e)
   refine⟨_,rfl,_,rfl,_,rfl,_,_,rfl,rfl,(?wZ 2),rfl,_,rfl,?_⟩;ext a5
   . have h2:?bL%2=0:=?B
     exact⟨_,rfl,fin n (by unfold iT;rw[?aI h2])⟩
   . have h2:¬?bL%2=0:=?B
     exact⟨_,rfl,_,rfl,fin (-n) (by unfold iT;rw[?aC h2])⟩
 . rintro σ H1 ⟨o1,o2,rfl,s1,ha1⟩;rw[qa2]at ha1;exact kq H1 s1 ha1
noncomputable abbrev Xq:Stmt:=top 53
theorem Ub:?q ["lines",?fD,?m3,"i"] ?kP (Av Xq):=Bg
theorem KS[?s](F:Ey K ?m9 ?m9 Xq f fd)[?r][?nQ]:?wN ?kP (Xh K):=by
 refine ?x1 Ub;obtain⟨r,u,as,n,W,f,t,rfl,x,hu,hm,hn,hW,k⟩:=h;have hq:SqL K H r (?b6):=.of x.2.1
 refine⟨_,(Ae (?xA 2 Ub.nd)
  (Ae (?x0 Ub.nd ?cP)
  (Ae (B8 (?A7 ?cP Nu) (Ai (Ky (B7 (N':=[?a9]) (cap:=?eM) ?f ?E (?x4 B5 (?zC ?h ?x)) (?wM (?z8 0 oB)) ?N (?wM (My Hx ?h))) (Kz ?n ?x Fm))) (Ai (B8 (?A7 ?cP Nu) (Ae (?z5 ?cP ?x)
  (Ai (?z5 ?x ?cP))) (Ai (Ky (An Il hr (Aa Aj (Aa (?zC ?h ?x) (?wV ?cP (?zC ?h ?cP))))) (Kz ?n ?x Fm))))))
  ?fO))),?_⟩
 ext F
 refine⟨_,rfl,r,?b6,rfl,?d5,fun L hL=>?_⟩;have sL:?e H (?tB):=?l hL;generalize hHL:?tB=HL at sL;have hLL:HL L=?wO (?b6):=by rw[←hHL];exact Ab
 have hqL:SqL K HL r (?b6):=?eH hq
 have fin:∀(i:Nat) (D:Addr) (H1:Hp),i<n->HL D=none->?t1->H1 D=?wO (VI W (QT t f i))->(∀r,r≠i->QT t f r=f r)->H1 L=?wO (?b6)/\Q (?m L) (?yB L (?mS i (?m D))):=by
  intro i D H1 hi hD s1 h1 he;have nDL:D≠L:=fun z=>by rw[z,hLL]at hD;cases hD
  refine⟨s1 _ _ hLL,?_⟩;have s2:?e H (?yB L (?mS i (?m D))):=(sL.trans s1).turn hL;refine k L (as.set i D) _ hL s2 (x.made s2 hi Ab (by rw[Ak nDL];exact h1) he) ?d8;rcases qn5 ha with ha | rfl
  . exact⟨?f9,fun z=>x.there.2 a ha (z▸hL)⟩
  . exact⟨?A (sL.free hD),nDL⟩
 cases t with
 | sw i j=>exact hm.elim
 | mi i =>
   have hi:i<n:=hm;obtain⟨ta,vs,rfl,hT,rT⟩:=hu;ext wI;have hT1:Ed K HL ta [V.str "minus",?u i]:=?v5;obtain⟨b,_,eb,_,hb⟩:=?qH;ext wC;ext nN;refine ?pY;refine⟨_,rfl,_,rfl,r,_,_,_,rfl,rfl,hqL,Bk eb,b,rfl,⟨_,?eH hb⟩,?Q⟩
   let Bf7:?H:=fun c ys τ H1=>B6 (?t1) ?bH (ys=VI c (fun c=>-(f i c))) ?eG
   refine Cy (K:=K) (a:=b) (xs:=VI W (f i)) Bf7
    ?bW (fun c ys τ H1 _ hz=>by ext e7;exact ?aS (?eH hb)) ?_ ?_
   . rintro c y ys τ H1 hx Di;ext fS;obtain⟨hc,rfl⟩:=Va hx;refine⟨_,rfl,_,rfl,Eg,?hH,?iG,Ab,?_,_,rfl⟩;rw[Tw]
   . ext fV;rw[Bu]at Eg;ext vJ
     ext vO
 | ad i j m =>
   obtain⟨hi,hj,hij,hm⟩:=hm;ext vL;have hT1:Ed K HL ta [V.str "add",?u i,?u j,?u m]:=?v5;obtain⟨bi,_,ebi,_,hbi⟩:=?qH;obtain⟨bj,_,ebj,_,hbj⟩:=?x4 x.row hj;ext wC;ext nN;refine ?mH;ext nN;refine ?mH;refine⟨_,rfl,_,rfl,r,_,_,_,rfl,rfl,hqL,Bk ebi,_,rfl,ta,_,_,_,rfl,rfl,hT1,rfl,_,rfl,_,rfl,ta,_,_,_,rfl,rfl,hT1,rfl,r,_,_,_,rfl,rfl,hqL,Bk ebj,?_⟩;refine⟨1,m,bi,bj,W,f i,f j,rfl,?eH hbi,?eH hbj,hW,fun c hc=>⟨?sY,hm c hc⟩,fun D H1 hD s1 Eg=>?_⟩;ext vJ
   ext vO
noncomputable abbrev Fe:Stmt:=Ex (top 55) 2
theorem Df:?q [?eZ,"i","j",?dR,?cW,"papers","a","b","c","d",?aX,"back"] ?rI (Av Fe):=Bg
theorem Pj[?s](F:Ey K "blend" "Lines.blend" Fe f fd)[?r](Ge:Has P w K mg ?i "shared_divisor" ?hW 1 (Vn K))[?nQ]:?wN ?rI (?zJ Mt):=by
 refine ?x1 Df;obtain⟨p,C,r,b,sv,n,W,i,j,A,B,s,N,rfl,hC,x,hi,hj,hij,hn,hW,hA,hB,lA,lB,bo,k⟩:=h;ext vN;obtain⟨pr,pb⟩:=x.refs;have rb:=x.ne
 have hc:?kS:=by
  rcases hC with rfl | rfl
  . ext nO
  . ext nM
 refine⟨_,(Ae (?zY 5 (?zD Ge (?wV ?x ?K)))
  (Ae (?zY 6 ?iT)
  (Ae (?zY 7 ?iT)
  (Ae (?zY 8 (My Hx (Bf K0 ?K ?iT)))
  (Ae (?zY 9 (Bf K0 ?x ?iT))
  (Ae (?zY 10 (?zC ?bG ?k))
  (Ae (Ky (An Il hr (Aa ?b8 (?xZ 10 ?dU))) (Kz ?bG ?k Fm))
  (Ae (?A2 ?d0 (?xZ 10 ?dW))
  (Ae (?zY 11 (?zC ?bG ?k))
  (Ae (Ky (?zD Il (Aa ?dW (?xZ 11 (My Hx ?d0)))) (Kz ?bG ?k Fm))
  (Ae (?A2 (My Hx ?dU) (?xZ 11 ?b8))
  (?A4 ?a3)))))))))))),?_⟩
 ext F
 refine ?zA (fun σ' H'=>V6 fun(L:Addr) (g a c:Int)=>B6 (σ'=[?b0,iS i,iS j,iS A,iS B,?aO,none,none,none,none,none,none]) ?cR (Ed K H' L ?pW) (Lat.Shares A B g a c))
 . exact⟨_,rfl,_,rfl,A,B,rfl,hA,hB,lA,lB,fun L g a c H1 s1 hL sh=>?x5 ⟨L,g,a,c,rfl,s1,hL,sh⟩⟩
 refine Ac3 fun L g a c H1 s1 hL sh=>?_;intro sq;have g0:=sh.pos;have lg:g.natAbs<L9:=qc0 (Nat.le_of_dvd (Int.natAbs_pos.mpr O9m) (qu0.mpr sh.dA)) lA;have cb:∀z:Int,Vd z g:=fun z=>Vd.of9 O9m lg;have la:a.natAbs<L9:=qc0 sh.la lB;have lc:c.natAbs<L9:=qc0 sh.lb lA;have eB:B.fdiv g=B / g:=?uM;have eA:A.fdiv g=?cU:=?uM;have lz':(B / g).natAbs<L9:=qc0 ?tE lB;have lz:(-(B / g)).natAbs<L9:=by rw[qc7];exact lz'
 have lu:(?cU).natAbs<L9:=qc0 ?tE lA;have hp1:=?rA;have hr1:=s1 _ _ xa.2.1;obtain⟨ci,_,MM,mci,LM⟩:=?x4 xa.row hi;obtain⟨cj,_,ecj,mcj,hcj⟩:=?x4 xa.row hj;obtain⟨di,_,edi,mdi,hdi⟩:=?x4 xb.row hi;obtain⟨dj,_,edj,mdj,hdj⟩:=?x4 xb.row hj;have mk:∀{u:Int}{k c U:Nat}{f:Lat.Mat},u.natAbs<L9->Lat.Bits n U big f->k<n->c<U->IntMulOk u (f k c):=fun h1 h2 h3 h4=>GJ h1 (h2 _ _ h3 h4);ext wJ;ext wJ;refine⟨_,rfl,_,rfl,L,_,_,_,rfl,rfl,hL,rfl,_,_,rfl,rfl,cb _,_,rfl,?_⟩;refine⟨_,rfl,_,rfl,L,_,_,_,rfl,rfl,hL,rfl,_,_,rfl,rfl,cb _,?_⟩;refine⟨_,rfl,p,C,dx,fs,_,rfl,hp1,?S,?c1,l1,_,rfl,r,_,_,_,rfl,rfl,.of hr1,Bk MM,?_⟩;refine Aq (fun σ' H'=>?wT a/\H1=H') ?_ fun key=>?x5 ⟨by rw[←eA,←eB];rfl,rfl⟩;ext e6;refine ?zA (fun σ' H'=>Er fun D1=>Mn (?wT a) (Vc r b H1 H') (Kp H1 H') (H1 D1=none) (H' b=H1 b) (?zZ r (?o7)) (?zZ D1 (VI W fun k=>a*s.1 i k+c*s.1 j k)))
 . refine⟨_,rfl,_,rfl,_,rfl,_,rfl,p,C,dx,fs,_,rfl,hp1,?S,?c1,l1,_,rfl,r,_,_,_,rfl,rfl,.of hr1,Bk ecj,?_⟩;refine⟨a,c,ci,cj,W,s.1 i,s.1 j,rfl,?aS LM,?aS hcj,hW,?xY la lc,fun D1 H2 Eg s2 h2=>?_⟩;have nD:D1≠r:=fun z=>by rw[z,hr1]at Eg;cases Eg
   refine⟨_,rfl,p,C,dx,fs,_,rfl,(?zQ hp1),?S,?c1,l1,_,rfl,r,_,_,i,rfl,rfl,?zQ hr1,Kd (by rw[qa2,xa.1];exact hi),?_⟩;exact ?x5 ⟨D1,rfl,(?fB s2).l,?zE s2,Eg,by rw[?sR,?zQ (?d6),?d6],Ab,by rw[?gH];exact h2⟩
 refine IG fun D1 H3 QL kp3 n1 b3 r3 d3=>?_;intro sq;have hp3:=QL _ _ pr pb hp1;have kr:?yH as:=?xI na na;have kb:?yH bs:=?xI nb nb;have qr:∀{G:Hp}{k:Nat}{c:Addr},?n3->c∈as->SqL K H c (VI W (s.1 k))->as[k]?=?c c->SqL K G c (VI W (s.1 k)):=fun fr hc _ e=>.of (kr fr hc _ (xa.2.2 _ _ e));have rci:as[i]?=?c ci:=by rw[qa8]at MM;obtain⟨z,e1,e2⟩:=?hP MM;cases e2;exact e1
 have rcj:as[j]?=?c cj:=by rw[qa8]at ecj;obtain⟨z,e1,e2⟩:=?hP ecj;cases e2;exact e1
 have rdi:bs[i]?=?c di:=by rw[qa8]at edi;obtain⟨z,e1,e2⟩:=?hP edi;cases e2;exact e1
 have rdj:bs[j]?=?c dj:=by rw[qa8]at edj;obtain⟨z,e1,e2⟩:=?hP edj;cases e2;exact e1
 have D1r:D1≠r:=fun z=>by rw[z,hr1]at n1;cases n1
 have D1b:D1≠b:=fun z=>by rw[z,?d6]at n1;cases n1
 refine ?zA (fun σ' H'=>Er fun D2=>Mn (?wT a) (Vc r b H3 H') (?sL) (H3 D2=none) (H' b=H3 b) (?zZ r ((?o7).set j (?m D2))) (?zZ D2 (VI W fun k=>-(B / g)*s.1 i k+?cU*s.1 j k)))
 . refine⟨_,rfl,_,rfl,_,rfl,_,rfl,p,C,dx,fs,_,rfl,hp3,?S,?c1,l1,_,rfl,r,_,_,_,rfl,rfl,.of r3,Bk (by rw[ql2 hij];exact ecj),?_⟩;refine⟨-(B / g),?cU,ci,cj,W,s.1 i,s.1 j,rfl,qr QL mci LM rci,qr QL mcj hcj rcj,hW,?xY lz lu,fun D2 H4 Le s4 h4=>?_⟩;have nD:D2≠r:=fun z=>by rw[z,r3]at Le;cases Le
   refine⟨_,rfl,p,C,dx,fs,_,rfl,(?m0),?S,?c1,l1,_,rfl,r,_,_,j,rfl,rfl,s4 _ _ r3,Kd (by rw[qi6,qa2,xa.1];exact hj),?_⟩;refine ?x5 ⟨D2,rfl,(?fB s4).l,?zE s4,Le,?_,Ab,by rw[?gH];exact h4⟩;have e3:H3 b=?wO (bs.map ?c2):=by rw[b3];exact ?d6
   rw[?sR,s4 _ _ e3,e3]
 refine IG fun D2 H5 yV ZV n2 b5 r5 d5=>?_;intro sq;have e5:H5 b=?wO (bs.map ?c2):=by rw[b5,b3];exact ?d6
 have yW:=QL.trans yV;have EL:=yV _ _ pr pb hp3;have D2r:D2≠r:=fun z=>by rw[z,r3]at n2;cases n2
 have D2b:D2≠b:=fun z=>by rw[z,b3,?d6]at n2;cases n2
 refine⟨_,rfl,p,C,dx,fs,_,rfl,EL,?S,?bR,l2,_,rfl,b,_,_,_,rfl,rfl,.of e5,Bk edi,?_⟩;refine Aq (fun σ' H'=>?wS a/\H5=H') ?_ fun key=>?p0;ext e6;refine ?zA (fun σ' H'=>Er fun D3=>Mn (?wS a) (Vc r b H5 H') (Kp H5 H') (H5 D3=none) (H' r=H5 r) (?zZ b (?sM)) (?zZ D3 (VI n fun k=>?cU*s.2 i k+-?aG*s.2 j k)))
 . refine⟨_,rfl,_,rfl,_,rfl,_,rfl,_,rfl,p,C,dx,fs,_,rfl,EL,?S,?bR,l2,_,rfl,b,_,_,_,rfl,rfl,.of e5,Bk edj,?_⟩;refine⟨?cU,-?aG,di,dj,n,s.2 i,s.2 j,rfl,?yJ yW,?yI yW,hn,?xX lu (by rw[qc7];exact lz),fun D3 H6 aO s6 h6=>?_⟩;have nD:D3≠b:=fun z=>by rw[z,e5]at aO;cases aO
   refine⟨_,rfl,p,C,dx,fs,_,rfl,(s6 _ _ EL),?S,?bR,l2,_,rfl,b,_,_,i,rfl,rfl,s6 _ _ e5,Kd (by rw[qa2,xb.1];exact hi),?_⟩;exact ?x5 ⟨D3,rfl,(?fB s6).r,?zE s6,aO,by rw[Ak rb,s6 _ _ r5,r5],Ab,by rw[?gH];exact h6⟩
 refine IG fun D3 H7 fr7 kp7 n3 r7 b7 d7=>?_;intro sq;have YV:=yW.trans fr7;have hp7:=fr7 _ _ pr pb EL;have D3r:D3≠r:=fun z=>by rw[z,r5]at n3;cases n3
 have D3b:D3≠b:=fun z=>by rw[z,e5]at n3;cases n3
 refine ?zA (fun σ' H'=>Er fun D4=>Mn (?wS a) (Vc r b H7 H') (Kp H7 H') (H7 D4=none) (H' r=H7 r) (?zZ b ((?sM).set j (?m D4))) (?zZ D4 (VI n fun k=>-c*s.2 i k+a*s.2 j k)))
 . refine⟨_,rfl,_,rfl,_,rfl,_,rfl,_,rfl,p,C,dx,fs,_,rfl,hp7,?S,?bR,l2,_,rfl,b,_,_,_,rfl,rfl,.of b7,Bk (by rw[ql2 hij];exact edj),?_⟩;refine⟨-c,a,di,dj,n,s.2 i,s.2 j,rfl,?yJ YV,?yI YV,hn,?xX (by rw[qc7];exact lc) la,fun D4 H8 gS s8 h8=>?_⟩;have nD:D4≠b:=fun z=>by rw[z,b7]at gS;cases gS
   refine⟨_,rfl,p,C,dx,fs,_,rfl,(s8 _ _ hp7),?S,?bR,l2,_,rfl,b,_,_,j,rfl,rfl,s8 _ _ b7,Kd (by rw[qi6,qa2,xb.1];exact hj),?_⟩;refine ?x5 ⟨D4,rfl,(?fB s8).r,?zE s8,gS,?_,Ab,by rw[?gH];exact h8⟩;have e7:=r7.trans r5;rw[Ak rb,s8 _ _ e7,e7]
 refine IG fun D4 H9 fr9 kp9 n4 r9 b9 d9=>?_;intro sq;have LO:=YV.trans fr9;have D4r:D4≠r:=fun z=>by rw[z,r7,r5]at n4;cases n4
 have D4b:D4≠b:=fun z=>by rw[z,b7]at n4;cases n4
 have k19:Kp H1 H9:=((kp3.trans ZV).trans kp7).trans kp9;have u1:?xK D1:=?hK n1
 have bE:∀{G:Hp}{D:Addr},Kp H G->G D=none->?fQ:=fun kp e=>by
  cases z:H _ with
  | none=>rfl
  | some o=>exact ?cO e (kp _ (by rw[z];exact fun q=>by cases q))
 have k01:Kp H H1:=?d4 s1;have u2:?v3:=bE (?gB kp3) n2;have u3:?xK D3:=bE ((?gB kp3).trans ZV) n3;have u4:?xK D4:=bE (((?gB kp3).trans ZV).trans kp7) n4;ext w2
 have hL9:Ed K H9 L ?pW:=by
  rcases hL with h | h
  . exact ?t (by
     have hLr:L≠r:=fun z=>by rw[z]at h;rcases h with h|⟨_,h⟩<;>rw[hr1]at h<;>cases h
     have hLb:L≠b:=fun z=>by rw[z]at h;rcases h with h|⟨_,h⟩<;>rw[?d6]at h<;>cases h
     rcases h with h|⟨q,h⟩
     . exact ?t (?p5)
     . exact ?A ⟨q,?p5⟩)
  . exact ?A h
 refine⟨_,rfl,k L g a c H9 ((?fB s1).trans LO) ?qA hL9 sh ⟨⟨dx,fs,LO _ _ pr pb hp1,l1,l2,l3,l4,l5⟩,⟨_,xa.two (D1:=D1) (D2:=D2) hi hj hij ?_ (fun a ha=>kr LO ha) ?_ ?_ ?_,?d8⟩,⟨_,xb.two hi hj hij b9 (fun a ha=>kb LO ha) ?_ ?_ ?_,?d8⟩,rb,x.nr,x.nb,fun a ha z=>x.nn a ha (bE ?qA z)⟩⟩
 . rw[r9,r7,r5]
 . show ?zN D1 i;rw[Lat.blend_row_p hij];exact(fr9 _ _ D1r D1b (fr7 _ _ D1r D1b (yV _ _ D1r D1b d3)))
 . show ?zN D2 j;rw[Lat.blend_row_q];exact(fr9 _ _ D2r D2b (fr7 _ _ D2r D2b d5))
 . ext w4
 . rcases JA ha with ha | rfl | rfl
   . exact na a ha
   . exact⟨D1r,D1b,nN _ u1⟩
   . exact⟨D2r,D2b,nN _ u2⟩
 . show H9 D3=?wO (?zO i);rw[Lat.blend_row_p hij];exact fr9 _ _ D3r D3b d7
 . show H9 D4=?wO (?zO j);rw[Lat.blend_row_q];exact d9
 . ext w4
 . rcases JA ha with ha | rfl | rfl
   . exact nb a ha
   . exact⟨D3r,D3b,nN _ u3⟩
   . exact⟨D4r,D4b,nN _ u4⟩
noncomputable abbrev Jp:Stmt:=Ex (top 58) 0
theorem Uc:?q ?bY ?bY (Av Jp):=Bg
theorem Ul[?s](F:Ey K ?j0 "Stairs.__init__" Jp f fd)[?r](Y0:ZM P w K mg ?i Ag ?j0 ?bY 1 (?zJ Mr)):?wN ?bY (?zJ DI):=by
 refine ?x1 Uc;obtain⟨p,dx,r,b,rfl,hp,k⟩:=h
 refine⟨_,(Ae (Bw (rX Y0 hr ?f ?l0 (Aa ?h (Aa ?k ?aH))))
  (Ai (?x2 ?bU))),?_⟩
 ext F
 refine⟨_,rfl,_,rfl,_,rfl,p,dx,Ad,r,b,rfl,?A rfl,hp,fun H1 fs hfs hH1=>?_⟩;have hp1:H1 p=?c (?V Ad dx fs):=by rw[hH1];exact Ab
 have s1:?b7 p H H1:=by rw[hH1];exact ?cS ?fL
 have hl:?y2 2:=by rw[hfs];exact ?qP
 refine⟨qa9 _,fun D hD=>?_⟩;have ZZ:p≠D:=Ar hp1 hD;refine⟨_,rfl,p,Ad,dx,fs,rfl,by rw[Ak ZZ];exact hp1,T.cl_Stairs,T.na_Stairs_starts,O9m,?_⟩;refine k D _ _ ?_ (by rw[hfs]) (SameX.upd (s1.trans (SameX.of (Same.new hD)))) (by rw[Ak ZZ.symm];exact Ab) Ab;cases z:H D with
 | none=>rfl
 | some o=>rw[s1 _ _ ZZ.symm z]at hD;cases hD
noncomputable abbrev Kx:Stmt:=top 79
theorem B9:?q [?fA,?d3,?c5,"_law_layer","_law_rows",?cF,"_law_below","_law_one",?k3,?qO] ?kZ (Av Kx):=Bg
theorem We[?s](F:Ey K ?nF ?nF Kx f fd)[?r][?vT]:?wN ?kZ (Oi K):=by
 refine ?x1 B9;obtain⟨l,us,v,ws,w,fam,rfl,hl,hr0,hv,hw,hlen,k⟩:=h;have aM:=hr.u8
 have s0w:∀u∈[w],?t8:=fun u hu=>by
  have e:u=w:=by simpa using hu
  subst e;exact hw
 refine⟨_,(Ae (?x0 ?b3 (E8 ?aJ))
  (Ae (?xS ?b3 ?bU)
  (Ae (Ci qb9 rfl (?x9 ?gY) (?yT ?b3) (Ae (?xS ?b3 (Bf ?f7 ?x ?K))
  (Ae (Ap (i:=6) ?b3 ?bU)
  (Ae (?A8 ?x (Ci qb9 rfl (?x4 B5 (?zD Gq (Aa ?dU ?aH))) (?z8 8 ?b3) (Ai (B8 (PW.pt (GB (Be ?iV ?d0 ?h rfl) (BJ (Be ?iV ?d0 ?b8 rfl)))) (Ai (?wW ?b8 ?d0)) Bo))))
  (Ai (?x0 ?b3 ?b8))))))
  (Ae (?xA 9 ?b3)
  (Ae (?A8 ?K (?A0 (Be ?iV ?dU ?dW rfl) (?wW ?dW ?dU)))
  (?A4 ?dW)))))),?_⟩
 ext F
 refine⟨_,rfl,?M,fun L0 hL0=>?_⟩;have s1:?e H (?y5 L0 [v]):=?l hL0;refine⟨?a2,fun R0 hR0=>?_⟩;have s2:?e (?y5 L0 [v]) (upd (?y5 L0 [v]) R0 ?bT):=?l hR0
 refine⟨_,rfl,?cT,?cT,Co (lo:=0) (n:=(4:Int).toNat)
  (fun i σ H2=>fJ fun(L R:Addr) (lu ru:?aZ) (?iU rows:Am) (o5 o6 o7 o8 o9:?aT)=>jY (σ=[?c6,?a1,?a0,?aO,rS R,o5,o6,o7,o8,o9]) ?bC (H2 L=?wO lu) (?R K H2 lu (layer.map tI)) (H2 R=?wO ru) (?R K H2 ru (rows.map tI)) ((∀u∈layer,?t8)) (N2 ws fam (4-i) ?iU rows=?pV) (layer.length<=4 ^ i) (rows.length<=1000*i))
  ⟨L0,R0,[v],[],[w],[],?j,?j,?j,?j,?j,rfl,?bM,?u2,Reps.one (?f6 (?bM) hv),Ab,rfl,s0w,rfl,?bJ,?bJ⟩ ?_ ?_⟩
 . ext d9
   ext L
   ext vM;have hi4:i<4:=?vA
   have h4i:4 ^ i<=64:=by
    have:i=0\/i=1\/i=2\/i=3:=O9m
    rcases this with rfl | rfl | rfl | rfl<;>decide
   have lul:lu.length=layer.length:=by have:=rL.length;ext z
   ext vR
   refine⟨_,rfl,_,rfl,L,R,_,_,rfl,rfl,.of hL,.of hR,Bs O9m,fun R1 hR1=>?_⟩;have sa:?e H2 ?c7:=?l hR1;have A95:?c7 R1=?wO (lu++ru):=Ab
   have rRa:?R K ?c7 (lu++ru) (?y3 ?r4):=by
    rw[qb0];exact(?v1).append (?J sa rR)
   have hLa:=sa _ _ hL;have rLa:?R K ?c7 lu (layer.map tI):=?v1;have sHa:?e H ?c7:=?eU sa;refine⟨?a2,fun B hB=>?_⟩;have sb:?e ?c7 (upd ?c7 B ?bT):=?l hB;have hBH:?xK B:=sHa.free hB
   refine⟨_,rfl,L,rfl,⟨_,?wR sb hLa⟩,?bD (K:=K) (a:=L) (xs:=lu)
    (fun j σ H3=>Og fun ?tV (o7 o8:?aT)=>B6 (σ=[?c6,?a1,?a0,?aO,rS R1,?zI (0+i),rS B,o7,o8,o9]) (?e ?c7 H3) (H3 B=?wO bu) (?R K H3 bu (?y3 ?tK)))
    ⟨[],_,_,rfl,sb,Ab,rfl⟩ (fun j σ H3 _ hz=>by obtain⟨_,_,_,_,s3,_⟩:=hz;exact ?wR s3 hLa) ?_ ?_⟩
   . rintro j x σ H3 hx Di
     ext L
     ext j8;intro bu o7 o8 s3 hB3 rB Fd;have hj:j<lu.length:=?e1;have hjl:j<layer.length:=O9m
     have hjx:(layer.map tI)[j]?=?c (tI ?fI):=?tN
     obtain⟨x',hx',tx⟩:=rLa.get hjx;ext j9;have hwj:Fj fam ?fI:=ZY _ (?hF);refine⟨_,rfl,_,rfl,x,?fI,fam,rfl,?qF,hwj,fun p fu H4 hp s4 Op r4=>?_⟩;have fl:=Ki hwj;have ful:fu.length=?l1:=by have:=r4.length;ext z
     have hpB:p≠B:=fun z=>by rw[z,hB3]at hp;cases hp
     have hB4:=s4 _ _ hB3
     refine⟨p,rfl,(?zS ?jZ),?bD (K:=K) (a:=p) (xs:=fu)
      (fun m σ H5=>Jj fun ?tV (o8:?aT)=>Dn (σ=[?c6,?a1,?a0,?aO,rS R1,?zI (0+i),rS B,?c x,o8,o9]) (?b7 B H4 H5) (H5 B=?wO bu) (?R K H5 bu (?y3 ?cQ)) (?pN<=1000))
      ⟨bu,_,rfl,?lE,hB4,(by simpa[Dc]using ?J s4 rB),?_⟩ (fun m σ H5 _ hz=>by obtain⟨_,_,_,s5,_⟩:=hz;exact .of (s5 _ _ hpB Op)) ?_ ?_⟩
     . have:=?qD;simp only[List.take_zero,Dc,qh2,qc1]at this ⊢;omega
     . rintro m y σ H5 hy Di
       ext L
       revert σ;refine VE ?_;intro bu5 o8' s5 vN rJ A88 Fd;have hm:?sC:=?mN;have hmf:m<?l1:=O9m
       have hmy:(?y3 ?eT)[m]?=?c (tI ?oH):=?v6
       obtain⟨y',hy',ty⟩:=r4.get hmy;rw[hy]at hy';cases hy';generalize hf:?oH=fc at ty;have ty5:TI K H5 y fc:=TI.t (s5.t hB4) ty
       have hl5:H5 l=?kI:=by
        refine s5 l _ (?lB) (s4 _ _ (s3 _ _ (sHa _ _ hl)));rw[z]at hl;rw[hl]at hBH;cases hBH
       have rl5:Rep K H5 (?m l) (?g (?dK)):=⟨l,us,rfl,.of hl5,Reps.t (s5.t hB4) (Yu ws) (?J ((sHa.trans s3).trans s4) hr0)⟩
       have rb5:Rep K H5 (?m B) (?g (?y3 ?cQ)):=⟨B,bu5,rfl,.of vN,rJ⟩
       have e0:?qI=(if fc ∉ ws/\fc ∉ ?cQ then ?cQ++[fc] else ?cQ):=by
        rw[qf5,?m8,hf];exact V4 _ _ _ _
       have A87:bu5.length=?pN:=by have:=rJ.length;ext z
       have OS:?xM ?qI:=by
        have h1:=R9 (ws:=ws) (?jK (m+1)) ?iF;have h2:=?qD;simp only[qh2,qc1]at h1 h2;have h3:?l1<=4:=by have:=fl.1;have:=fl.2;split at*<;> omega
        omega
       generalize hacc:?cQ=acc at rJ rb5 e0 A87 A88;refine⟨_,rfl,_,rfl,tI fc,?dK,ty5,?t rl5,(by have:=Pw ws;omega),_,rfl,?_⟩;by_cases h1:fc∈ws
       . ext wG;ext j7;refine ?qB;rw[e0,?aC (by simp[h1])];exact rJ
       . ext wF;refine(?xF ty5 rb5);by_cases h2:?uH
         . refine ?yX On;refine ?qB;rw[e0,?aC (by simp[h2])];exact rJ
         . refine ?yX BY;refine⟨_,rfl,?t ⟨rfl,_,.of vN⟩,_,rfl,B,_,_,rfl,rfl,vN,?aF,?_⟩;refine⟨_,_,rfl,s5.upd,Ab,?_,OS⟩;rw[e0,?aI ⟨h1,h2⟩];exact Ka vN rJ ty5
     . rintro σ H5 Di;revert σ;refine VE ?_;intro bu5 o8' s5 vN rJ _ Fd;refine⟨bu5,_,_,rfl,?_,vN,?_⟩
       . exact s5.same (?i4) hB
       . rw[ful,qd2]at rJ;rw[qf5,?jF];have e1:?zT (layer.take j++(?c ?fI).toList)=Dc ws ?iF (?eT):=Zs _ _ _ _ _;rw[e1];exact rJ
   . rintro σ H3 Di;ext j8;intro bu o7 o8 s3 hB3 rB Fd;rw[lul,qd2]at rB;ext fX;refine⟨B,R1,bu,lu++ru,?zT ?iU,?r4,_,_,_,_,_,rfl,sHa.trans s3,hB3,rB,s3 _ _ A95,?J s3 rRa,?_,?_,?_,?_⟩
     . intro u hu;rcases Qh _ _ hu with z|⟨t,ht,z⟩
       . exact ?vB
       . exact(Oc (ZY t ht) z).1
     . rw[←hlay,show 4-i=(4-?b1)+1 by omega];rfl
     . have:=Na (ws:=ws) (fam:=fam) ?iU [] ZY;simp only[qh2]at this;rw[qg7];omega
     . rw[qb1];omega
 . rintro σ H2 Di;ext vM;have Lo:rows=?pV:=hlay;have A61:=gO (ws:=ws) hw;rw[←Lo]at A61;ext vR
   refine⟨_,rfl,l,_,rfl,?t (?wR sH hl),fun M hM=>?_⟩;have sm:?e H2 (upd H2 M (?g us)):=?l hM;have hMH:?pM:=sH.free hM;have qR:us.length=ws.length:=by have:=hr0.length;ext z
   refine⟨_,rfl,R,rfl,⟨_,?wR sm hR⟩,?bD (K:=K) (a:=R) (xs:=ru)
    (fun j σ H3=>Jj fun(mu:?aZ) ?mA=>B6 (σ=[?c6,?a1,?a0,?aO,rS R,o5,o6,o7,o8,rS M]) (?e H2 H3) (H3 M=?wO mu) (?R K H3 mu (?y3 ?dD)))
    ⟨us,_,rfl,sm,Ab,(by simpa[Fb]using ?J (?eU sm) hr0)⟩ (fun j σ H3 _ hz=>by obtain⟨_,_,_,s3,_⟩:=hz;exact ?wR s3 hR) ?_ ?_⟩
   . rintro j x σ H3 hx Di
     ext L
     ext e3;intro mu o7' s3 yS rM Fd;have hj:j<ru.length:=?e1;have hjl:j<rows.length:=O9m
     have hjx:(rows.map tI)[j]?=?c (tI rows[j]):=?tN
     obtain⟨x',hx',tx⟩:=rR.get hjx;ext j9;generalize hf:rows[j]=fc at tx;have tx3:TI K H3 x fc:=?qF
     have e0:Fb ws (?lS (j+1))=(if fc∈?dD then ?dD else ?dD++[fc]):=by
      rw[qf5,?jF,hf];exact V5 _ _ _
     have hal:=Z0 (?lS j) ws;rw[qc1]at hal;have mul:mu.length=(?dD).length:=?p4
     generalize hacc:?dD=acc at rM e0 hal mul;have rm3:Rep K H3 (?m M) (?g (?mG)):=⟨M,mu,rfl,.of yS,rM⟩
     refine(?xF tx3 rm3);by_cases h1:?uH
     . ext wG;refine⟨mu,_,rfl,s3,yS,?_⟩;rw[e0,?aI h1];exact rM
     . ext wF;refine⟨_,rfl,?t ⟨rfl,_,.of yS⟩,_,rfl,M,_,_,rfl,rfl,yS,?aF,?_⟩;refine⟨_,_,rfl,s3.turn hM,Ab,?_⟩;rw[e0,?aC h1];exact Ka yS rM tx3
   . rintro σ H3 Di;ext e3;intro mu o7' s3 yS rM Fd;rw[rul,qd2,Lo]at rM;exact⟨_,rfl,k M mu H3 hMH (?eU s3) yS rM⟩
noncomputable abbrev L6:Stmt:=top 86
theorem Ku:?q [?dA,?h7,?bB,?cM] ?t2 (Av L6):=Bg
theorem Yb[?s](F:Ey K ?rK ?rK L6 f fd)[?r](Oa:Has P w K mg ?i ?mZ ?lH 1 (Oy K)):?wN ?t2 (iR K):=by
 refine ?x1 Ku;obtain⟨c,ns,m,rfl,hS,hl,kq⟩:=h
 refine⟨_,(Ae (?A1 Ku.nd ?bU)
  (Ae (Ci qb9 rfl (?x4 B5 (Cv ?f2 ?h Ev (C4 ?k))) (?z8 3 Ku.nd) (Ai (?wW ?n (?A6 (?zD Oa (Aa ?n ?dT)) Aj))))
  ?fO)),?_⟩
 ext F
 refine ?tJ;have s1:?e H (?kY):=?aB;have Eg:(?kY) D=?c ?bT:=Ab;generalize ?kY=H1 at s1 Eg;refine⟨_,rfl,_,rfl,_,rfl,c,_,rfl,?aS hS,fun C hC=>?_⟩;have s2:?e H1 (?mF):=?l hC;have hcl:=Tr ns ?j ?nH;have hC2:(?mF) C=?wO ((?rQ).map ?u):=by rw[←Tq];exact Ab
 have Le:=?n1;generalize ?mF=H2 at s2 hC2 Le;generalize ?rQ=cs at hcl hC2
 have hCD:C≠D:=fun z=>by
  subst z;rw[Eg]at hC;cases hC
 let Bf6:?bE:=fun i σ G=>Og fun(us:?aZ) (xs:Am) ?dC=>Hq (σ=[rS c,iS m,?b9,o]) (?b7 D H2 G) (G D=?kI) (?R K G us (xs.map tI)) (Cg xs) (xs.length=i)
 refine⟨C,rfl,(?zP hC2),?bD (K:=K) (a:=C) (xs:=cs.map ?u) Bf6
  ⟨[],[],?j,rfl,?lE,Le,rfl,(fun k p h=>by simp at h),rfl⟩ (fun i σ G _ hz=>by obtain⟨_,_,_,_,s3,_⟩:=hz;exact .of (s3 _ _ hCD hC2)) ?_ ?_⟩
 . rintro i x σ G hx Di
   ext L
   ext e4;intro us xs o s3 Ef rG hsh J0 Fd;have hi:i<cs.length:=?dZ
   have hxv:x=?d cs[i]:=by
    ext jA;ext cC
   subst hxv;have qR:?jT:=by have:=rG.length;ext z
   refine⟨_,rfl,?t ⟨rfl,_,?lY⟩,_,rfl,_,rfl,D,xs,cs[i],rfl,⟨D,us,rfl,?lY,rG⟩,hsh,O9m,fun R v m' p G1 g1 hR tv hF=>?_⟩;refine⟨R,_,_,_,rfl,rfl,hR,rfl,?_⟩;have LN:=?k6;refine(?xQ LN);exact⟨us++[v],xs++[p],_,rfl,(?iI (?eD g1)).upd,Ab,Ka LN (?J g1 rG) tv,BX hsh hF,?h0⟩
 . rintro σ G Di;ext e4;intro us xs o s3 Ef rG hsh J0 Fd;rw[qa2]at J0;refine⟨_,rfl,kq D us G xs hD ?_ Ef rG hsh O9m⟩;intro b q e;exact s3 b q ?oG ((?bM) _ _ e)
noncomputable abbrev F2:Stmt:=top 9
theorem O5:?q ?l5 ?l5 (Av F2):=Bg
theorem Pf[?s](F:Ey K ?pF ?pF F2 f fd)[?r][?w1][?w9]:?wP ?l5 (Fl K):=by
 refine ?x1 O5;obtain⟨a,x,d,l,xs,rfl,hL,hx,k⟩:=h;obtain⟨us,hq,Yw⟩:=?v2;refine(?zW (Mb (?zD Ej (?wV ?k ?bA)) (Nv (Lm En (?zD Fu (Aa ?hA Ac)) ?n ?v))));refine⟨_,rfl,_,rfl,a,us,rfl,?d5,x,d,_,rfl,hx,_,rfl,?_⟩;rw[Yw];ext nR
 . obtain⟨i,rfl⟩:∃i,d=?b5:=by cases d<;>first | exact ?f5 | (exfalso;simp[belowD]at e)
   cases (show x=?b5 from hx);have e':?tZ:=e;have h0:0<=i/\i<?lN:=by simpa using e'
   obtain⟨us',v,hq',hv,tv⟩:=?dJ hL h0.1 h0.2;refine⟨_,rfl,_,rfl,a,us',i,v,rfl,rfl,hq',hv,v,_,rfl,?A tv,_,rfl,rfl,?_⟩
   have e2:Do xs (?b5) l=?X (?xP D9=l):=by
    show ?yP _;rw[e'];simp[D9]
   rw[e2]at k
   have e3:?X (?u (?xP D9)=?u l)=?X (?xP D9=l):=by
    by_cases z:?xP D9=l
    . simp[z]
    . simp[z]
   rw[e3];exact k
 . have e2:Do xs d l=false:=by
    cases d with
    | int i =>
      have e':¬?tZ:=e;show ?yP false;rw[Bool.eq_false_iff.mpr e'];rfl
    | _=>rfl
   ext cD
noncomputable abbrev L1:Stmt:=top 32
theorem Xn:?q ?lK ?lK (Av L1):=Bg
theorem X7[?s](F:Ey K ?v8 ?v8 L1 f fd)[?r][?w1]:?wP ?lK (Gd K):=by
 refine ?x1 Xn;obtain⟨i,b,rfl,h0,h1,k⟩:=h;refine⟨_,(Ai (?A0 (Ii (G6 (?zD Ej ?dF))) Sw)),?_⟩;refine⟨_,rfl,_,rfl,?b5,?b5,b,rfl,rfl,_,rfl,?_⟩;rw[show ?jL=true from belowD_of h0 h1];ext j7;exact k
noncomputable abbrev Ri:Stmt:=top 36
theorem DO:?q ?nB ?nB (Av Ri):=Bg
theorem dY[?s](F:Ey K ?oM ?oM Ri f fd)[?r](Gk:Has P w K mg ?i ?jH ?g4 2 (Jd K)):?wP ?nB (Vj K):=by
 refine ?x1 DO;obtain⟨v,h,w,f,rfl,hv,hh,hw,k⟩:=h;obtain⟨Vg,EY⟩:=T.x_MOST_ROWS;obtain⟨a,us,rfl,hq,Yw,N6⟩:=?fH
 refine⟨_,(Ae (B8 (PW.pt (NF (Ii (G6 (?z9 Db))) (gB (Be DU ?bA (Kc (v:=?d 40) ?f EY ?f5) ?v)))) ?eB Bo)
  (?A4 (?AC (B7 (N':=[?aX,?bF]) (cap:=?eW) ?f ?E ?bS (?wM (?z8 0 NX)) ?N (?wM (?zD Gk ?dF)))))),?_⟩
 ext F
 refine⟨_,rfl,?gI,?dL,dT h w f,rfl,?kM,hv,_,rfl,?_⟩;refine On (by simp[JD,dT]) ?_;refine⟨_,rfl,a,_,rfl,?d5,_,_,rfl,rfl,_,rfl,?_⟩;ext e2;ext fT
 let Bf5:?H:=?zG (?wX [o,iS w])
 refine Cy (K:=K) (a:=a) (xs:=us) Bf5
  ?bW (?x7 _) ?_ ?_
 . ext fW;ext fS;ext nS;refine⟨_,rfl,_,rfl,b,w,f i,rfl,?mR,hw,fun H2 s2=>?_⟩;refine⟨?n1,?c3 ?eF,?yW ?bM,Ab,?_,_,rfl⟩;rw[qu4,qb0];rfl
 . ext fV;refine⟨D,?q9,rfl,.of Eg,?_⟩;rw[?z3 ?q9];exact k H1 s1
noncomputable abbrev Ue:Stmt:=top 38
theorem fW:?q ?k0 ?k0 (Av Ue):=Bg
theorem gE[?s](F:Ey K ?qY ?qY Ue f fd)[?r](Pr:Has P w K mg ?i ?k1 ?kX 2 (Qs K)):?wP ?k0 (Q8 K):=by
 refine ?x1 fW;obtain⟨u,v,h,d,w,f,g,rfl,hu,hv,hh,hd,hw,hm,k⟩:=h;obtain⟨a,us,rfl,hq,Yw,N6⟩:=Hj hu;refine(?zW (B7 (N':=[?aX,?cW,?bF]) (cap:=[none,?c 1,?c 2]) ?f ?E ?bS (?wM (?z8 0 Ah8)) ?N (?wM (?zD Pr (Aa ?h (Aa ?k ?aH))))));ext fT
 let Bf4:?H:=fun i ys τ H1=>Er fun as=>B6 (as.length=i) (ys=?b6) (Rows H H1 D as w (fun i j=>Al (fun k=>f i k*g k j) d)) (?wX [o,?a1,iS w])
 refine Cy (K:=K) (a:=a) (xs:=us) Bf4
  ?kT (fun i ys τ H1 _ hz=>by obtain⟨as,_,_,R,_⟩:=hz;exact ?uR hq) ?_ ?_
 . rintro i x ys τ H1 hx ⟨as,hal,rfl,R,o,rfl⟩;ext nS;refine⟨_,rfl,_,rfl,_,rfl,b,v,d,w,f i,g,rfl,?uR hb,?pR,hd,hw,fun k j hk hj=>hm i k j hi hk hj,?mQ⟩;ext nJ
 . ext nL
noncomputable abbrev Rm:Stmt:=top 51
theorem dQ:?q ?lW ?lW (Av Rm):=Bg
theorem EA[?s](F:Ey K ?rS ?rS Rm f fd)[?r](Bt:Has P w K mg ?i ?kQ ?i6 2 (Ea K)):?wP ?lW (z8 K):=by
 refine ?x1 dQ;obtain⟨a,b,xs,k,ns,rfl,hL,J0,hb,hnl,kq⟩:=h;refine⟨_,(?A4 (?AE (B7 (N':=[?c0,?a9]) (cap:=[none,none]) ?f ?E (?yO (Aa (?zD Bt ?dF) ?aH)) (?wM (?z7 (As (i:=0) oA) (As (i:=1) oA))) (?wM (Kb (?zF Ln ?k))) (?wM (C7 ?dF))))),?_⟩;refine⟨_,rfl,_,rfl,a,k,xs,rfl,hL,J0,fun P H1 hP s1 hP1=>?_⟩;have pl:(Ht xs k).length<=1000:=qa5 (Fn ..) J0;have hnd:=Mx xs k;generalize JE:Ht xs k=sp at hP1 hnl pl hnd kq;have hb1:=?mR;have hzn:=mP hnl hnd;have hzl:(?hS).length=sp.length:=by rw[List.length_zip];omega
 refine⟨_,rfl,P,b,rfl,(?zP hP1),(?zS hb1),?Q⟩
 refine eW (K:=K) (a:=P) (b:=b) (xs:=?uU) (ys:=?eY) (n:=sp.length) (by rw[qa2,qa2];omega) (fun i zs τ G=>B6 (?e H1 G) ?uY ((∃ts:?k9,zs=ts.map ?c2/\ts.length=?mL/\∀(j:Nat) t,?uX->∃p:?pZ,(R6 ((?hS).take i))[j]?=?c p/\G t=?c (?y [?mY,?d p.2])/\?hZ)) (?xG [o1,o2]))
  ⟨?aB,Ab,⟨[],rfl,rfl,?r2⟩,?j,?j,rfl⟩ (fun i zs τ G _ hz=>by obtain⟨g,_⟩:=hz;exact⟨?wR g hP1,?hU hb1⟩) ?_ ?_
 . rintro i x y zs τ G p hx hy ⟨g,Ef,⟨ts,rfl,cW,hts⟩,o1,o2,rfl⟩ hp;ext vX
   have hz:=wC hnl hi
   have hxv:x=?d (?tG):=by
    ext jA;rw[qa4,?c9];ext cC
   have hyv:y=?d (?sB):=by
    rw[qa8,qa0 (show ?kH by omega)]at hy;rw[qa4,qa0 (show ?kH by omega)];simpa using hy.symm
   subst hxv hyv;have ct:=lY hz;generalize ?tG=sv at hz ct;generalize ?sB=nv at hz ct;have gp:?e G (?lG):=?b4;have hp1:(?lG) p=?c (?xT nv):=Ab;generalize ?lG=G1 at gp hp1;have ctl:?mL<=i:=qa5 (sY _) (by rw[qc1];omega);refine⟨p,_,rfl,.of hp1,rfl,_,_,rfl,_,_,rfl,rfl,?_⟩;ext aE;ext a5
   . have e:¬nv=0:=?B
     rw[?gW]at ct;refine⟨_,rfl,_,rfl,?M,?uT⟩;have gt:=gp.trans (?l (o:=?xT nv) ht);have ntD:?hZ:=(Ar (?iD) ht).symm;have hDt:=gt _ _ Ef;have htt:(?s9) t=?c (?xT nv):=Ab;generalize ?s9=G2 at gt hDt htt;refine⟨hDt,?dB,(?jG gt).turn hD,Ab,⟨ts++[t],?bJ,by rw[ct];simp[cW],?oS⟩,_,_,rfl⟩;rw[ct];rw[List.getElem?_append]at e2;split at e2
     . rename_i hj
       obtain⟨p',FJ,h2',h3'⟩:=?sT;exact⟨p',by rw[qb8 ?hT];exact FJ,?yS gt,h3'⟩
     . rename_i hj
       have hj0:j-ts.length=0:=by
        cases hz:j-ts.length with
        | zero=>rfl
        | succ m=>rw[hz]at e2;simp at e2
       ext wH
       subst et;refine⟨(sv,nv),?_,?_,ntD⟩
       . rw[qc4 ?hT,show j-?mL=0 by omega];rfl
       . rw[Ak ntD];exact htt
   . have e:nv=0:=?B
     rw[?gF]at ct;rw[ct];exact⟨?kW,?iD,⟨ts,rfl,cW,fun j t z=>let ⟨p',a1,a2,a3⟩:=hts j t z;⟨p',a1,gp _ _ a2,a3⟩⟩,_,_,rfl⟩
 . rintro zs τ G ⟨g,Ef,⟨ts,rfl,cW,hts⟩,_⟩;rw[←hzl,qd2]at cW hts;refine⟨D,ts,cK (R6 (?hS)),rfl,Ef,(by rw[R7];exact cW),?sK,?kA⟩
   . obtain⟨p,FJ,h2',_⟩:=?pQ;refine⟨(?t p.1,?d p.2),?_,h2'⟩;unfold cK;rw[qa8,FJ];rfl
   . refine kq E _ ((?cX g).free hE) ((?cX g).trans (?l hE)) ?_;rw[Ab,?yC (Ai1 hzn),qo7]
noncomputable abbrev Fs:Stmt:=Ex (top 55) 1
theorem c6:?q ?m7 ?m7 (Av Fs):=Bg
theorem Qv[?s](F:Ey K ?fD "Lines.turn" Fs f fd)[?r](Te:Has P w K mg ?i ?m9 ?kP 2 (Xh K))(Wx:Has P w K mg ?i ?mE ?iB 1 (AA K)):?wP ?m7 (?zJ Kq):=by
 refine ?x1 c6;obtain⟨p,u,C,r,b,sv,n,W,s,N,t,rfl,hC,x,hu,m1,m2,hn,hW,k⟩:=h;ext vN
 have hc:?kS:=by
  rcases hC with rfl | rfl
  . ext nO
  . ext nM
 refine⟨_,(Ae (?x2 (?zD Te (Aa ?bG ?aJ)))
  (Ai (Ew (K:=K) ?h (?zD Te (?wV ?bG (An Wx hr ?aJ)))))),?_⟩
 ext F
 refine⟨_,rfl,p,C,dx,fs,_,rfl,hp,?S,?c1,l1,_,rfl,r,u,as,n,W,s.1,t,rfl,xa,hu,m1,hn,hW,fun D1 VQ H1 Eg s1 x1 n1=>?_⟩;have hp1:=?rA;refine⟨_,rfl,p,C,dx,fs,rfl,hp1,?S,?c1,O9m,?_⟩;have sx1:?b7 p H ?eK:=?cS (?eD s1);have Ae8:?b7 p H1 ?eK:=?h1
 have hu1:Rep K ?eK u (QM t):=by
  refine Rep.t ⟨fun b xs e=>?_,fun b o u e=>?_⟩ (by cases t<;>rfl) hu
  . ext w7
  . ext w7
 have hl1:?v9=fs.length:=Mw l1;have hp2:?eK p=?c (?V C dx (?xL fs)):=Ab;have x2:=x1.x hp1 Ae8;have qQ:=xb.x hp sx1
 have TN:?yR ?eK ?oU:=fun a e=>by
  by_cases hap:a=p
  . rw[hap,Ab]at e;cases e
  . rw[Ak hap]at e;exact ?hK e
 generalize zZ:?pU=H2 at sx1 Ae8 hu1 hp2 x2 qQ TN;refine⟨_,rfl,p,C,dx,_,_,rfl,hp2,?S,?bR,(by ext nU;exact l2),_,rfl,u,t,rfl,hu1,fun u2 H3 s3 hu3=>?_⟩;refine⟨b,u2,bs,n,n,s.2,tnA t,rfl,qQ.same s3,hu3,m2,hn,hn,fun D2 bs2 H4 Le s4 x4 n4=>?_⟩;have mK:=?i4;have Op:=mK _ _ hp2;refine⟨_,rfl,p,C,dx,_,rfl,Op,?S,?bR,O9m,?_⟩;have hl2:(?T ?fG (?c2 D2) (?q0)).length=?v9:=Mw (x:=?m b) (by ext nU;exact l2);have WN:?b7 p H4 (upd H4 p (?V C dx (?T ?fG (?m D2) (?xL fs)))):=?h1;have f2:?v3:=TN _ (s3.free Le);have dne:D1≠D2:=fun z=>?rF ?r8;ext w2;refine k D1 D2 _ (?cS (sx1.trans (?eD mK))) Eg f2 ⟨⟨dx,_,Ab,?_,?_,?_,?kV,O9m⟩,⟨VQ,(x2.same mK).x Op WN,?d8⟩,⟨bs2,x4.x Op WN,?d8⟩,dne,nN _ Eg,nN _ f2,fun a ha z=>?_⟩
 . rw[At,?iY,At,?c4]
 . rw[At,?c4]
 . rw[At,?iY,At,?iY];exact l3
 . rw[At,?f8,At,?f8];exact l4 m hm
 . have h1:=(x2.same s3).there.2 a ha;obtain⟨h2,h3⟩:=n1 a ha;refine⟨h3,fun z=>h1 ?r8,?_⟩;rcases h2 with h2 | h2
   . exact(na a h2).2.2
   . exact nN a h2
 . obtain⟨h2,h3⟩:=n4 a ha;refine⟨?lB,h3,?_⟩
   . rcases h2 with h2 | h2
     . exact xb.there.2 a h2 (z▸Eg)
     . exact ?rF (z▸h2)
   . rcases h2 with h2 | h2
     . exact(nb a h2).2.2
     . exact nN a (TN _ (s3.free h2))
 . by_cases hap:a=p
   . rw[hap,Ab]at z;cases z
   . rw[Ak hap]at z;exact x.nn a ha (TN _ (mK.free z))
noncomputable abbrev L3:Stmt:=Ex (top 64) 0
theorem Xo:?q ?m4 ?m4 (Av L3):=Bg
theorem X8[?s](F:Ey K ?j0 "Work.__init__" L3 f fd)[?r](K5:FI P w K mg ?i Ag ?bY 1 (?zJ Mr))(Qy:Has P w K mg ?i ?kC ?g8 2 (bF K)):?wP ?m4 (?zJ DJ):=by
 refine ?x1 Xo;obtain⟨H0,p,dx,v,n,w,M,rfl,s0,fp,hp,hv,hn,hw,k⟩:=h;obtain⟨ta,us,rfl,hq0,Yw,_⟩:=?fH
 refine⟨_,(Ae (?x2 ?k)
  (Ae (?x2 ?n)
  (Ae (?x2 (M0 K5 hr ?f ?l0 (Aa (An Qy hr (?zX (?zB ?aJ))) (?zX (An Qy hr (Aa (?zB ?aJ) Ac))))))
  (Ae (Ew (K:=K) ?h (M0 K5 hr ?f ?l0 (?wV (?zD Qy ?aH) (?zD Qy ?aH))))
  (Ai (?x2 ?bU)))))),?_⟩
 ext F
 have mkL:∀{G1 G2 G3:Hp}{D1 D2 L CF:Addr}{VQ iA:?k9}{m:Nat}{fs:?nG}{G4:Hp}{N:Addr->Prop},VQ.length=m->Rows G1 G2 D1 VQ m (fun i j=>?h8)->iA.length=m->Rows G2 G3 D2 iA m (fun i j=>?h8)->G3 L=none->?e G3 (?y1 L)->fs=?T ?fG (?m D2) (?xL [])->G4=upd (upd (?y1 L) L (?V Ag CF (?xL []))) L (?V Ag CF fs)->(∀a,N a->G1 a≠none) →
  ?p6/\LX G4 Ag L D1 D2 ?j m m ?cI N:=by
  intro G1 G2 G3 D1 D2 L CF VQ iA m fs G4 N hl1 R1 hl2 R2 nL sN hfs YS hN;have hL4:G4 L=?c (?V Ag CF fs):=by rw[YS];exact Ab
  have st:?p6:=fun a o e=>by
   rw[YS,Ak (Ar e nL),Ak (Ar e nL)];exact sN _ _ e
  clear YS
  have x1:TA G4 D1 VQ m m ?kG:=((?uN).same (R2.same.trans st)).congr fun i c _ _=>by
   by_cases z:i=c
   . subst z;simp[Lat.one]
   . ext w6
  have x2:TA G4 D2 iA m m ?kG:=((TA.of R2 hl2).same st).congr fun i c _ _=>by
   by_cases z:i=c
   . subst z;simp[Lat.one]
   . ext w6
  have t1:=(?uN).there;have f2:?yR G2 ?uS:=fun a e=>?l6 e;have nN:∀a,?uS->¬N a:=fun a e z=>hN a z e;refine⟨st,⟨CF,fs,hL4,?kD,?kD,?kD,?kV,?_⟩,⟨VQ,x1,?d8⟩,⟨iA,x2,?d8⟩,fun z=>t1.1 ?u7,nN _ ?mV,nN _ (f2 _ R2.free),fun a ha z=>hN a ha (f2 _ (R2.same.free (st.free z)))⟩
  . rw[hfs,At,?f8,At,?f8];rfl
  . rw[hfs];exact qa5 ?dG (qa5 ?oD ?bQ)
  . obtain⟨i,hi,rfl⟩:=qk6 ha;obtain⟨z1,z2,z3⟩:=R1.row i _ (?c9);exact⟨z2,fun z=>t1.2 _ ha ?u7,nN _ z1⟩
  . obtain⟨i,hi,rfl⟩:=qk6 ha;obtain⟨z1,z2,z3⟩:=R2.row i _ (?c9);exact⟨fun z=>t1.1 (z▸z1),z2,nN _ (f2 _ z1)⟩
 refine⟨_,rfl,_,rfl,p,Ah,dx,_,rfl,hp,?eO,T.na_Work_table,?bJ,?_⟩;refine D7 (fun σ' H'=>?hI/\upd H p (?V Ah dx (?T ?aM (?m ta) []))=H') ?_ ?eS;rintro _ _ ⟨rfl,rfl⟩;refine ?zA (fun σ' H'=>?hI/\∃fs,fs=?T ?bF (?d (w:Int)) (?T ?aM (?m ta) [])/\?jJ/\?b7 p H H')
 . refine⟨_,rfl,_,rfl,p,Ah,dx,_,rfl,Ab,?eO,T.na_Work_width,?sH,?_⟩;exact ?x5 ⟨rfl,_,rfl,Ab,?cS ?fL⟩
 refine Kl fun H2 cX=>?_;intro sq;obtain⟨Tz,hf2,hp2,sx2⟩:=cX;have l2:Tz.length<=2:=by rw[hf2];exact ?qP
 have wU:?e H0 H2:=sx2.same s0 fp;refine ?zA (fun σ' H'=>?hI/\∃(L O1 O2:Addr) (fs:?nG),fs=?T "left" (?m L) Tz/\?jJ/\?b7 p H2 H'/\Kp H2 H'/\p≠L/\H2 L=none/\H2 O1=none/\H2 O2=none/\?xC H' (?i1))
 . refine⟨_,rfl,ta,us,rfl,?t (wU.seq hq0),n,(by rw[Yw]<;>rfl),O9m,fun O1 os1 G1 hl1 R1=>?_⟩;refine⟨_,rfl,ta,us,rfl,?t ((wU.trans R1.same).seq hq0),n,(by rw[Yw]<;>rfl),O9m,fun O2 os2 G2 hl2 R2=>?_⟩;have s2:=?s4;intro L dl nL ndl A22;have sN:?xV L L:=?rH nL;refine⟨L,dl,Ag,?m O1,?m O2,rfl,?gS,Ab,?q7⟩;obtain⟨st,lx⟩:=?xH nL;have Op:=st _ _ (?zQ hp2);have SK:p≠L:=Ar (?zQ hp2) nL;refine(?xD Op T.na_Work_left);exact ?x5 ⟨rfl,L,O1,O2,_,rfl,Ab,?cS (?eD (?Y st)),?zE (?Y st),SK,?mT nL,?mV,?l6 R2.free,lx.x Op SK ?fL ?aL⟩
 refine Kl fun H3 cX=>?_;intro sq;obtain⟨L,O1,O2,vO,hf3,hp3,sx3,kp3,SK,nL,n1,n2,ZT⟩:=cX;have l3:vO.length<=3:=by rw[hf3];exact qa5 ?dG (qi8 l2)
 have WT:?e H0 H3:=sx3.same wU fp;refine ?zA (fun σ' H'=>?hI/\∃(R O3 O4:Addr) (fs:?nG),fs=?T "right" (?m R) vO/\?jJ/\?b7 p H3 H'/\?sL/\p≠R/\H3 R=none/\H3 O3=none/\H3 O4=none/\?xC H' (fun a=>?uF)/\LX H' Ag R O3 O4 ?j w w ?cI (?i1))
 . refine⟨_,rfl,w,rfl,O9m,fun O1' os1 G1 hl1 R1=>?_⟩;refine⟨_,rfl,w,rfl,O9m,fun O2' os2 G2 hl2 R2=>?_⟩;have s2:=?s4;intro R dl nR ndl A22;have sN:?xV R R:=?rH nR;refine⟨R,dl,Ag,?m O1',?m O2',rfl,?gS,Ab,?q7⟩;obtain⟨st,lx⟩:=?xH nR;have Op:=st _ _ (?zQ hp3);have uV:p≠R:=Ar (?zQ hp3) nR;have n4:H3 O2'=none:=?l6 R2.free;refine(?xD Op T.na_Work_right)
   have y1:?xC G4 (fun a=>a=O1'\/a=O2'):=ZT.more (?Y st) (fun a ha=>?A (by rcases ha with rfl | rfl;exact R1.free;exact n4)) fun a ha=>by
    rcases ha with rfl | rfl
    . obtain⟨_,z,_⟩:=lx.rw;exact ?r0
    . obtain⟨_,z,_⟩:=lx.bk;exact ?r0
   exact ?x5 ⟨rfl,R,O1',O2',_,rfl,Ab,?cS (?eD (?Y st)),?zE (?Y st),uV,?mT nR,?mV,n4,y1.x Op SK ?fL ?aL,lx.x Op uV ?fL ?aL⟩
 refine Kl fun H4 cX=>?_;intro sq;obtain⟨R,O3,O4,fs4,ZX,Op,UN,kp4,uV,nR,n3,n4,lx4,ly4⟩:=cX;have l4:fs4.length<=4:=by rw[ZX];exact qa5 ?dG (qi8 l3)
 have uP:?e H0 H4:=UN.same WT fp;refine⟨?a2,fun nm hnm=>?_⟩;have sn:?e H4 (?tQ):=?l hnm;have YJ:upd H4 nm ?bT nm=?c ?bT:=Ab;have EL:=sn _ _ Op;generalize ?tQ=H5 at sn YJ EL;refine(?xD EL T.na_Work_numbers)
 have ex:∀a,?r9->H5 a≠none:=fun a ha=>by
  rcases ha with rfl | rfl | rfl
  . rw[YJ];exact fun z=>?vB
  . obtain⟨_,z,_⟩:=ly4.rw;exact ?uE
  . obtain⟨_,z,_⟩:=ly4.bk;exact ?uE
 have z1:?xC H5 (fun a=>?r9):=lx4.more sn (fun a ha=>ha.elim (fun e=>?A (e▸hnm)) ?t) ex;have z2:LX H5 Ag R O3 O4 ?j w w ?cI (fun a=>a=nm):=ly4.more sn (fun a ha=>?A (ha▸hnm)) fun a ha=>ex a (?f9);have DC:?b7 p H5 (?y0 p):=?h1;have s06:?e H0 (?y0 p):=DC.same (uP.trans sn) fp;have g2:?yR H2 ?oT:=fun a e=>wU.free e;have g3:?yR H3 ?oT:=fun a e=>WT.free e;have npn:p≠nm:=Ar Op hnm;have LR:L≠R:=fun z=>by obtain⟨_,_,q,_⟩:=ZT.ob;rw[z,nR]at q;cases q
 refine k L R nm _ ⟨⟨?m ta,dx,_,Ab,?_,?_,?_,?_,?_,?kV,?_,fun M' e=>by cases e;exact ?dO (fun a o e=>by rw[Yz (Ar e (?s8))];exact s06 _ _ e) hv⟩,⟨O1,O2,O3,O4,z1.x EL SK DC ?aL,z2.x EL uV DC ?aL,g2 _ n1,g2 _ n2,g3 _ n3,g3 _ n4⟩,by rw[Ak npn.symm];exact YJ,s06,⟨fp,g2 _ nL,g3 _ nR,?s8⟩,⟨SK,uV,LR⟩,⟨hn,hw⟩⟩
 . rw[ZX,hf3,hf2];ext cA
 . rw[ZX,hf3,hf2];ext cA
 . rw[ZX,hf3];ext cA
 . rw[ZX];ext cA
 . ext cA
 . rw[ZX,hf3,hf2]
   iterate 5 rw[At,?f8]
   rfl
 . exact qa5 ?dG O9m
noncomputable abbrev Rf:Stmt:=top 72
theorem Ek:?q [?cL,"bases","lifts","parts","order","loop","gauge","filling",?c0,?a9] ?sW (Av Rf):=Bg
theorem DW[?s](F:Ey K ?o0 ?o0 Rf f fd)[?r](OW:Has P w K mg ?i ?jR ?hW 2 (IP K))(GR:Has P w K mg ?i ?mW ?hY 1 (dG K)):?wP ?sW (Vi K):=by
 refine ?x1 Ek;obtain⟨a,b,xs,us,ls,rfl,hL,J0,hb,hB,hok,kq⟩:=h;obtain⟨_,xu,z,hq,r⟩:=?gA
 refine⟨_,(Ae (Nt (N':=?eL) (cap:=?eM) (i:=2) ?bP ?f ?gC ?f ?E ?bS (?wM (?z8 0 xP)) ?N (fun _ _ _ _=>Sy))
  (Ae (Ci qb9 rfl (?x4 B5 ?k) (?z8 3 ?bP) (Ai (Ci qb9 rfl (?x4 B5 ?x) (Eo (K:=K) (n:=4) ?f (Br (?z8 4 ?bP) (Br (?yT ?bP) (Br (?z8 6 ?bP) (Br (?z8 7 ?bP) Em))))) (Ai (?wU ?K (gC (Ci qb9 rfl (Pe ?b8) (?z7 (?A5 8 ?bP) (?A5 9 ?bP)) (Ai (Ky (An OW hr (Aa (?zC ?n ?d0) (?zX (?zD GR (Aa ?dW (Aa ?dU Ac)))))) (Kz ?n ?d0 Fm))))))))))
  ?fO)),?_⟩
 ext F
 cases z;have xul:xu.length=xs.length:=?hJ
 refine ?zA (fun σ' H'=>Jj fun ?hO ?fK=>Dn (σ'=[?D,?dV,?b9,none,none,none,none,none,none,none]) ?cR (?fQ) (H' D=?dI) (Fz H H' ws (?e0 ?aW [])))
 . ext fT
   let Bf3:?H:=fun i ws τ G=>B6 ?cN (G D=?dI) (Fz H G ws (?e0 i [])) ?eG
   refine Cy (K:=K) (a:=a) (xs:=xu) Bf3
    (?xR ⟨rfl,fun i v e=>by simp at e⟩) (fun i ws τ G _ hz=>?yG hq) ?_ ?_
   . rintro i x ws τ G hx Di;ext e5;intro g Ef dd o Fd;have hi:i<xu.length:=?e1;have wl:ws.length=i:=by have:=dd.1;rwa [qk9]at this
     refine ?kA;have g1:?e G (?rG):=?l hE;refine⟨?k6,?aF,(?jG g1).turn hD,Ab,?_,_,rfl⟩;rw[qu4];refine Fz.keep (H:=?rG) ((dd.same g1).snoc (g.free hE) Ab) fun c kvs _ e=>?_;rw[?iH]
     . exact e
     . rw[z,?k6]at e;cases e
   . rintro ws τ G ⟨g,Ef,dd,_⟩;rw[xul]at dd;exact ?x5 ⟨D,ws,rfl,g,hD,Ef,dd⟩
 refine iG fun D ws H1 s1 nD hD dd=>?_;intro sq;refine ?zA (fun σ' H'=>mO fun ?fK ?rP=>B6 (σ'=?rX) ?cR (H' D=?dI) (Fz H H' ws (N1 ?aW ls)))
 . refine(?zV b ⟨_,?wR s1 hb⟩)
   refine ?bD (K:=K) (a:=b) (xs:=us) (fun i σ G=>mO fun ?fK ?rP=>Dn (σ=?rX) ?cN (G D=?dI) (Fz H G ws (?iR)) (Z4 ?aW (?iR)))
    ⟨ws,_,_,_,_,_,_,_,rfl,s1,hD,dd,Z4.first _⟩ (fun i σ G _ hz=>by obtain⟨_,_,_,_,_,_,_,_,_,g,_⟩:=hz;exact ?wR g hb) ?_ ?_
   . rintro i v σ G hv Di;ext vS;have hi:=?hN;have h0:=hB.1;obtain⟨ps,hps⟩:∃ps,ls[i]?=?c ps:=?t6
     obtain⟨pa,pu,rfl,hpa,rP⟩:=hB.2 i v ps hv hps;have pok:=hok ps (qb6 hps);have pl:=rP.len
     have LQ:N1 ?aW (ls.take ?b1)=Vp (?iR) ps:=by
      unfold N1;rw[qf5,hps,qs0];rfl
     rw[LQ];generalize ?iR=lf at dd CV;refine(?zV pa ⟨_,?wR g hpa⟩)
     refine ?bD (K:=K) (a:=pa) (xs:=pu) (fun j σ G=>zN fun ?fK (o2 o3 o4 o5 o6 o7:?aT)=>Dn (σ=(?z0 ?h6)) ?cN (G D=?dI) (Fz H G ws (?h3)) (Z4 ?aW (?h3)))
      ?v0 (fun i σ G _ hz=>by obtain⟨_,_,_,_,_,_,_,_,g,_⟩:=hz;exact ?wR g hpa) ?_ ?_
     . rintro j v σ G hv Di;ext vV;obtain⟨p,hp,pv⟩:=rP.get hv;obtain⟨t,c1,c2,c3,rfl,et,e1,e2,e3,nec⟩:=pv.same g;have pk:=pok p (qb6 hp)
       have ejk:Vp lf (?dH (j+1))=JB (?h3) p:=by
        unfold Vp;rw[qf5,hp,qs0];rfl
       rw[ejk];generalize ?h3=lg at dd CV
       have e20:∃kvs,H c2=?c (.dK kvs):=by
        obtain⟨t',_,c2',_,q1,q2,_,q4,_⟩:=pv;cases q1;have:=g _ _ q2;rw[et]at this;ext j6;ext j6;injection this with _ this;injection this with _ this;ext j6;ext j6;exact⟨_,by rw[this];exact q4⟩
       refine⟨t,_,rfl,.of et,rfl,_,_,rfl,_,_,rfl,_,_,rfl,_,_,rfl,rfl,?_⟩;ext aE;ext a5
       . have h1:?hE:=?B
         have eP:JB lg p=p.2.2.1.foldl (lift1 ?eV) lg:=?aI h1;rw[eP];have nDc:c2≠D:=fun z=>by rw[z,Ef]at e2;cases e2
         refine ?A ⟨c2,?g5,e2,?kN⟩;refine⟨_,rfl,c2,o,?g5,rfl,Ab,?_⟩
         refine U2 (d:=c2) (o:=o) (kvs:=?g5) (fun m σ G2=>Og fun ?fK (o6 o7:?aT)=>Hq (σ=[?D,?dV,?b9,?h6,?c (?mY),rS c1,rS c2,rS c3,o6,o7]) (G2 c2=?y9 ?g5) (G2 D=?dI) (Fz H G2 ws (?g7)) (Z4 ?aW (?g7)) ((∀c q,c≠c2->c≠D->G c=?iZ->G2 c=?iZ)))
          ⟨ws,_,_,rfl,Ab,by rw[Ak nDc.symm];exact Ef,?_,CV,fun c q n1 _ e=>by rw[?gK];exact e⟩ (fun i σ G _ hz=>?sI) ?_ ?_
         . refine ?pO;rw[?iH]
           . exact e
           . obtain⟨_,q⟩:=e20;rw[z,q]at e0;cases e0
         . rintro m kk x σ G2 pp hx Di hpp;ext e4;intro ws o6 o7 hc2 eN dd CV hk Fd;ext nV;obtain⟨x0,x1⟩:=pk.gk q (qb6 hq)
           have emk:?z2 (m+1)=lift1 ?eV (?g7) q:=by
            rw[qf5,hq,qs0];rfl
           rw[emk];generalize ?g7=lh at dd CV;have wl:ws.length=xs.length:=dd.1.trans CV.1;have WO:?e G2 (upd G2 pp (?y [?d q.1,?d q.2])):=?l hpp;refine(?x6 pp);obtain⟨v,hv⟩:∃v,ws[?eE]?=?a1:=?t6
           obtain⟨c,rfl,nc,hc⟩:=dd.2 _ v hv
           have hat:V3 ws q.1=?c (?m c):=by
            have:=Bk hv
            ext w3
           have nc3:c3≠D:=fun z=>by rw[z,Ef]at e3;cases e3
           have e33:=WO _ _ (hk _ _ nec.symm nc3 e3);have lc:=CV.at ?eE;refine⟨_,rfl,_,rfl,D,ws,_,_,rfl,rfl,?wR WO eN,hat,_,rfl,_,rfl,q.2,c3,?eV,rfl,e33,qa5 pk.fl.len ?bQ,pk.mul q (qb6 hq),fun T G4 nT s4 hT=>?_⟩;refine⟨c,T,_,_,rfl,?t (s4 _ _ (WO _ _ hc)),hT,qa5 lc.len ?bQ,qa5 (pk.fl.times q.2).len ?bQ,fun E G5 nE s5 hE=>?_⟩;have s15:=(WO.trans s4).trans s5;refine⟨_,rfl,_,rfl,D,ws,_,_,rfl,rfl,?o6,by rw[wl];have:=Kd (l:=xs.length) (i:=?eE) O9m;ext w3,?_⟩;refine⟨_,_,_,rfl,?_,Ab,?_,CV.lift1 pk.fl q,fun d r n1 n2 e=>?_⟩
           . rw[Ak nDc];exact s15 _ _ hc2
           . refine Fz.keep (H:=G5) ((dd.same s15).set ?_ hE ?eE) fun d kvs _ e=>?_
             . cases e:H E with
               | none=>rfl
               | some r =>
                 have:=(WO.trans s4) _ _ (hk E r (?z6 hc2).symm (?z6 eN).symm (g _ _ e));rw[nE]at this;cases this
             . rw[?iH]
               . exact e
               . rw[z,?o6]at e;cases e
           . rw[Ak n2];exact s15 _ _ (hk d r n1 n2 e)
         . rintro σ G2 Di;ext e4;intro ws o6 o7 hc2 eN dd CV hk Fd;rw[R7,qd2]at dd CV;refine⟨hc2,ws,_,_,_,_,_,_,rfl,fun c r e=>?_,by rw[Ak nDc.symm];exact eN,?pO,CV⟩
           . by_cases z:c=c2
             . subst z;have:=g _ _ e;rw[e2]at this;cases this;exact Ab
             . rw[Ak z];exact hk c r z (Ar e nD) (g _ _ e)
           . rw[?iH]
             . exact e
             . rw[z,hc2]at e;cases e
       . have h1:¬?hE:=?B
         have eP:JB lg p=lg:=?aC h1;rw[eP];exact ?v0
     . rintro σ G Di;ext vV;rw[pl,qd2]at dd CV;exact⟨ws,_,_,_,_,_,_,_,rfl,g,Ef,dd,CV⟩
   . rintro σ G Di;ext vS;rw[hB.1,qd2]at dd;exact ?x5 ⟨ws,_,_,_,_,_,_,_,rfl,g,Ef,dd⟩
 refine Ab9 fun ws o1 o2 o3 o4 o5 o6 o7 H2 s2 Le dd=>?_;intro sq;exact⟨_,rfl,kq D ws H2 nD s2 Le dd⟩
noncomputable abbrev Np:Stmt:=top 80
theorem Dy:?q [?pT,?dA,?h7,?c5,?fA,?cM,?qO] ?tX (Av Np):=Bg
theorem f6[?s](F:Ey K ?oN ?oN Np f fd)[?r](Mh:Has P w K mg ?i ?nF ?kZ 2 (Oi K))(Rx:Has P w K mg ?i ?mB ?kE 1 (Sm K))[?vT]:?wP ?tX (Qt K):=by
 refine ?x1 Dy;obtain⟨a,ns,kind,most,rfl,hS,hl,hm0,hm1,k⟩:=h;have aM:=hr.u8
 refine⟨_,(Ae (?x0 ?cH Aj)
  (Ae (?wU (?zH E9 ?h) (?A3 ?cH (My Hx Aj)))
  (Ae (?wU (?zH E9 ?h) (?A3 ?cH (Bf Cl Aj (?zH E9 (Bf Nw ?h Aj)))))
  (Ae (?xS ?cH ?bU)
  (Ae (Ci qb9 rfl (?x4 B5 ?k) (?yT ?cH) (Ae (Ap (i:=6) ?cH (?zD Mh (Aa ?K (Aa (An Rx hr (Aa ?a3 (?wV ?x (Bf Cl Aj (Bf E9 (Bf Nw ?h Aj) Aj))))) ?dT))))
  (Ai (?A0 (Be iY ?gU ?n ?v) (?xS ?cH ?b8)))))
  (Ai (Bd (B7 (N':=[?d3,?c5,?fA]) (cap:=[none,?c 3,?c 4]) ?f ?E (?x4 B5 ?K) (?wM (?z8 0 XN)) ?N (?wM (?A9 (B7 (N':=[?k3,?fA]) (cap:=[none,?c 2]) ?f ?E (B5 (K:=K) (?zD Gq ?dF)) (?AD (?z8 0 xN)) ?N (?AD (G9 (K:=K) qd9 PySem.F.slot_list_index PySem.F.type_list_index (lD (K:=K) aM) ?k ?W))))))))))))),?_⟩
 ext F
 refine ?xE [?i9,?D,?gE,iS 0,none,none,none];ext e6;refine Aq (?x3 ?D) ?_ fun Aj2=>?_;rotate_left
 . ext vK
   . exact⟨_,rfl,Aj2 _ _ ⟨-1,rfl,rfl,?cT⟩⟩
   . exact Aj2 _ _ ⟨0,rfl,rfl,?cT⟩
 refine mR fun Bc2 hf0=>?_;intro sq;refine Aq (?x3 ?D) ?_ fun gP=>?_;rotate_left
 . ext vK
   . refine⟨_,rfl,_,_,rfl,rfl,?g0,_,_,rfl,rfl,(?wZ 19),_,_,rfl,rfl,gP _ _ ⟨_,rfl,rfl,?_⟩⟩;have:kind / 18%19<19:=?g6;omega
   . exact gP _ _ ⟨Bc2,rfl,rfl,hf0⟩
 refine mR fun fam hf=>?_;intro sq;have l1:0<=kind / 3%6:=?kU;have l2:kind / 3%6<6:=?g6;refine⟨?a2,fun W0 hW0=>?_⟩;have s0:?e H (upd H W0 ?bT):=?l hW0
 refine⟨_,rfl,a,rfl,⟨_,s0.seq hS⟩,?bD (K:=K) (a:=a) (xs:=?eY)
  (fun j σ H2=>bB fun(W:Addr) (wu:?aZ) (ws:Am) (o5 o6:?aT)=>Mn (σ=[?i9,?D,?gE,?a0,rS W,o5,o6]) ?bC (?xK W) (H2 W=?wO wu) (?R K H2 wu (?dK)) (JS fam ws) ((ws.length:Int)<=most))
  ⟨W0,[],[],?j,?j,rfl,s0,hW0,Ab,rfl,JS.nil,by simpa using hm0⟩ (fun j σ H2 _ hz=>by obtain⟨_,_,_,_,_,_,s2,_⟩:=hz;exact ?dX hS) ?_ ?_⟩
 . rintro j x σ H2 hx Di
   ext L
   ext vU;ext vW
   have hxv:x=?d ns[j]:=by
    rw[qa8,qa0 hjn]at hx;ext cC
   subst hxv;refine⟨_,rfl,_,rfl,_,rfl,_,rfl,_,_,rfl,rfl,?g0,_,_,rfl,rfl,(?wZ 6),_,_,rfl,rfl,?_⟩;refine⟨_,_,_,rfl,O9m,O9m,O9m,fun v H3 w s3 tv hw=>?_⟩;ext fX;refine⟨W,wu,v,ws,w,fam,rfl,s3 _ _ yP,?J s3 rW,tv,hw,O9m,fun M mu H4 hM s4 hM4 rM=>?_⟩;have mK:=?i4;have hMH:?pM:=(?Y s3).free hM;have mul:mu.length=(?oQ).length:=?p4
   refine⟨_,rfl,M,_,rfl,?t (.of hM4),_,rfl,_,_,rfl,rfl,_,rfl,?_⟩;ext a5
   . have h2:(mu.length:Int)<=most:=?B
     exact⟨_,rfl,M,mu,?oQ,_,_,rfl,?Y mK,hMH,hM4,rM,Z8 hO hw,O9m⟩
   . exact⟨W,wu,ws,_,_,rfl,?Y mK,hW,mK _ _ yP,?J mK rW,hO,hwl⟩
 . rintro σ H2 Di;ext vU;have wul:wu.length=ws.length:=by have:=rW.length;ext z
   refine(?wY W (?zP yP));have hDH:?fQ:=?mT hD
   let Bf2:?H:=fun i ys τ H1=>B6 (?e H2 H1) ?bH (?y4 ?tC ?jB) (?wX [o,?a0,rS W])
   refine Cy (K:=K) (a:=W) (xs:=wu) Bf2
    ?bW (fun i ys τ H1 _ hz=>by ext e7;exact ?wR s1 yP) ?_ ?_
   . ext fW;ext e5;intro s1 Eg r1 o Fd;have hi:i<wu.length:=?e1;have hil:?qE:=O9m
     have hix:(?dK)[i]?=?c (tI ws[i]):=by rw[qa8,qa0 hil];rfl
     obtain⟨x',hx',tx⟩:=rW.get hix;ext j9;obtain⟨hwi,YL⟩:=hO.mem (qd3 hil);generalize hwe:ws[i]=w at tx hwi YL;refine⟨_,rfl,_,rfl,x,w,fam,rfl,?f6 s1 tx,hwi,fun p fu H3 hp s3 hp3 r3=>?_⟩;have ful:fu.length=?uI:=by have:=r3.length;ext z
     have WS:=?cX s3;refine⟨p,rfl,(?zP hp3),?u1⟩
     let Bf1:?H:=fun m zs τ H4=>B6 (?e H3 H4) (H4 D2=?fJ) (zs=((?c8).take m).map (fun f=>?u ?rJ)) (?wX [o,rS W])
     refine Cy (K:=K) (a:=p) (xs:=fu) Bf1
      ?sF (fun m zs τ H4 _ hz=>by obtain⟨s4,_⟩:=hz;exact .of (?m0)) ?_ ?_
     . rintro m y zs τ H4 hy Di;ext e5;intro s4 gS hzs o Fd;have hm:?sC:=?mN;have hmf:m<?uI:=O9m
       have hmy:(?p9 tI)[m]?=?c (tI ?i3):=?v6
       obtain⟨y',hy',ty⟩:=r3.get hmy;rw[hy]at hy';cases hy';have hfm:?i3∈ws:=YL _ (?hF);have IU:=WS.trans s4;have rw4:Rep K H4 (?m W) (?g (?dK)):=⟨W,wu,rfl,?wR IU yP,?J IU rW⟩
       have hfl:=(Ki hwi)
       have hzl:zs.length<=4:=by
        rw[hzs,qa2,qc1];have:=hfl.2;have:=hfl.1;split at this<;>omega
       refine⟨_,rfl,?t ⟨rfl,_,?wR IU yP⟩,_,rfl,?dK,y,tI ?i3,bZ ws ?i3,rfl,rw4,?f6 s4 ty,(by have:=Pw ws;omega),GW hfm,?_⟩;refine⟨gS,?aF,s4.turn Le,Ab,?_,_,rfl⟩;rw[qf5,?m8,qb0,hzs];rfl
     . rintro zs τ H4 ⟨s4,gS,hzs,_⟩;rw[ful,qd2]at hzs;have IU:=WS.trans s4;refine⟨D2,_,rfl,?t ⟨.of gS,?tU⟩⟩;have s5:?e H4 (upd H4 T (?y zs)):=?l hT;have hD5:=(?iI (s4.trans s5)) _ _ Eg
       have t5:TI K (upd H4 T (?y zs)) (?m T) (?l4):=by
        refine ?bI (.of ?_);rw[qm0,Ab,hzs];rfl
       ext vY
       refine⟨hD5,?aF,(IU.trans s5).turn hD,Ab,?_,_,rfl⟩
       have e2:(ws.take ?b1).map (?jB)=?tC (?jB)++[?l4]:=by
        rw[qf5,qa0 hil,hwe,qb0];rfl
       rw[e2];exact Ka hD5 (?J (?iI (s4.trans s5)) r1) t5
   . rintro ys τ H1 ⟨s1,Eg,r1,_⟩;rw[wul,qd2]at r1;exact k D ys H1 (Nj ws fam) hDH (?Y s1) Eg r1 (b6 hO) (by unfold Nj;rw[qa2];exact hwl)
end
mutual
#check(4,[?a,?b,some,.ref,base,.int,(fun key=>?_),(by rfl),Same,none,(pv 0),rS p,rS a,(pv 1),.lst,(pv 2),.(by decide),.inl,T.cl_Work,(pv 3),spot,T.cl_Stairs,(fun _ _=>rfl),Rep.same,(fun _ _ _ _ _ _=>Dr ?w),.(by decide +kernel),fun Ds A outer s H vs Q E hr h=>?_,F.okZ,FnScope,∀(T:?rM),a,∀{f:Addr}{fd:FuncData},a,Same.new,"shape",(Bm _),W.findIn,.tup,.(by infer_instance),iS k,putF,V.int,.inr,.ins,(?zL ?k),rS D,"self",(Ax (K:=K)),(Ba (K:=K)),(i:Int),(?zE ?n),(?vI Hi (fun _ _ _=>rfl)),T.n_len,"table",rS ga,rS la,(fun _ _ _ _ _ _=>J3 (?tB)),rS tp,(pv 4),.(by exact nomatch hl),?c ?j,(?q),if_neg,(k:Int),.of Ab,(Bi (K:=K)),(by ext aD),.(by kernel_rfl),Hz.nd,T.n_range,T.na_Stairs_rows,[?S],iS most,Nat->?dE->St->Hp->Prop,?c (?f ((?dO:Nat):Int)),.(by refine Hr ?_;intro sq),(?d E),"width",⟨_,rfl⟩,cK ms,decide,C0.nd,.(by ((repeat (first | rw[At,?cU] | rw[At,?iP]))<;>first | rfl | assumption)),Reps.same,(fun _ _ _ _=>Ca),(?yV ?Q),?xO ?gK,H=H',l.prog,(?zE ?k),R.same,?c (?f ?mP),(?zE ?p),(by ext z),V.ref,s1.trans,Dh xs (?bY),(pv 5),Bs (?bH),T.cl_Lines,(f+d),ite2,.(by ext bM),?r rfl,fun D hD=>?_,(?d Ag),rS nb,.(by simp),"thing",?c o,.of ?hR,Dx.nd,.(by simpa using h2),[?S,"k"],(?z2 M1),W.keepIn,"_law_k",Lat.Mat × Lat.Mat,(Aa ?k ?W),rS nn,List,(?dW),?c (?kC),(?xK ?p),?a9+1,(?zE Aj),T.na_Stairs_starts,(E3 (K:=K)),if_pos,x.same,T.cl_Book,small,"turn",(?c 3),(?dO),?f (?g5),rS ta,[?Z,?aN],.(by ext cF),"__init__",.(by obtain⟨dx,fs,hp,l1,l2,l3,l4,l5⟩:=lx.ob),.(by simpa using h1),g.trans,(?d Ad),?f (j:Int),T.na_Work_numbers,T.na_Work_table,Dh xs 0,fun C hC=>?_,(?eC),(0:Int),"blend",(?o us),(?zN ?Q ?p),qa9 _,(?d Ah),?c2 rfl,"law",rS tl,SameX,R.same.seq,[(pl,1)],"left",(pv 6),(?zE ?Q),T.n_list,?c5 O9m,s.1 i (?e1),"_law_shape",(w+n),s.1 ?u (?e1),"_law_script","pieces",?c ?cQ,Nat->St->Hp->Prop,iS i,?bU V,(?xL Fo (Aa ?k ?bZ)),T.na_Work_left,Same.refl,?d T1,bs.map ?b4,?x s1 hL,?c (?o ys),K.lookup,?d T,Dh xs k,rS tg,mainGlobals,l4 _ ?b3,(?zE ?b7),?a8 (fun z=>?gR (z▸hm) ?b3),?xO ?gG,?f i,spot+1,[?bI],Nat->Int,qa0 hi,Dq ?oM,t ?u,.(by rintro σ G Di;revert σ),.(by exact k H (?dH H)),T.na_Work_right,?jC g2,?c5 (by rw[qa2];omega),(?zE ?a4),?yU a,fun e=>?o3,(show spot<n by omega),(?d Aw),?y8 H,(?z1 ?d2),?xO ?a9,(D5 (K:=K)),Lat.one,"papers",[?S,?kP,?lY],R.free,.cons,"place",SameX.upd,(Hu m f),[?S,"i","j","one",?h9],?F hT1,(i+1),(?zE ?t),(?c 23),"right",[?S,"i"],[?S,?c6],R2.same,Ct.nd,rS fi,(?dI),as.map ?b4,Ht xs (k-1),R3.same,Ak KY.symm,?c (?f ((?b6:Nat):Int)),"number",?F hD,⟨_,rfl,?_⟩,?d D2,s2.trans,ns.length,fun a ha=>?_,Lat.turnL,xs.getD,.(by obtain⟨ZP,GY,GU,hpa,l1a,l2a,XY,ZU,VF,zU,l7a,_⟩:=x.ob),∀(C5:Has P w K mg ?e ?qF ?cB 2 (Hy K)),a,.(by rw[?u2]),.(by refine ?bB (fun h1=>?_) (fun h1=>?_)),∀{α:Type}{P:?bU α->Prop},a,∀(us:?bU α),a,?wE (?sR "object.__setattr__"),(us:?dE),((?e1:Nat):Int),W.codeIn,?d ga,"rank",(kk:Int),(?F uW).turn,SameX.of,ZR _ _ Ef,Ht xs k,?v6 ?rU,Hv ?_,?c (?f ((l9 ps:Nat):Int)),(?zC [o]),"is_chain_of_some_level","lifts","row",.none,(?qJ),?c 0,?nJ f k0 i,[?d6,?bQ],[none],(?fU).length,?x6 h1,(E8 Ac),?bU Addr,"is_shape",fun E hE=>?_,⟨?f6,Ab,rfl,?j,rfl⟩,(k0:Int),(m:Int),fun Ju=>Ju _ _ ?rU,[?G,?bI,"bound"],(?t1 i j 1 l),(w:Int),Option,Str.empty,((spot:Nat):Int),(?jM),"tuple",?i H G,absurd,?gL L2.V,(top 64),"_law_numbers_told",iS many,CN ?oM,"parts_of",a=q\/N a,?eM (SameX.refl _ _),?x6 O9m,.(by rw[qb0];rfl),W.fnOf,(top 58),?m3 t i f s d,"_law_level_holds",.(by simpa using h4),PySem.W.plainOver,W.nsIn,"other","border_table",.func,"_law_numbers",PySem.W.makesIn,"is_part",?s0 i,(?h4).1 i (t ?bA) / s.1 ?bA (t ?bA),PySem.W.hasDictIn,"is_chain",(D:Addr),(?d a),fun r' b' G2 sx n1 n2 z=>?_,"__setattr__","diagonal",?a8 (by omega),(pv 7),"bases_of",xa.2.1,.str "add",(?vA Kq),"border",upd G e (.dK (cK ?cZ)),?d D,Se xs ms,k H1 s1,[?G,"k",?bI],⟨rfl,?_⟩,[?G,"k"],PySem.W.plainGet,?F hp,q.1=0,⟨T1,_,rfl,?aA,⟨_,_,rfl,rfl,_,_,rfl,rfl,_,_,rfl,rfl,_,_,rfl,rfl,rfl⟩⟩,Sv d f l r,"first_misfit",fun a=>a=nm,σ'=[?l,none],(?f1).length,R.same.trans,"chain",(?zL (Bb (K:=K) ?p)),"stepped",(?c M),(?vA Mt),i+1+j,[?f g,?f a,?f b],(?d F9),(?xK ?b7),?O rfl,(?y8 H2),[?G,"k",?eL,?f5],Bk MM,?a8 ?b3,(QY i j g a b f r),[?d9],"fits",.(by refine ?bB (fun h2=>?_) (fun h2=>?_)),.(by refine Kl ?sV;intro sq),.(by exact ?fV),.(by obtain⟨as,xa,na⟩:=lx.rw),.(by obtain⟨qJ,QI,sm3⟩:=x.sm),.(by replace hrep:=hrep _ rfl),.(by exact fun z=>nomatch z),.(by refine On (?bH) ?_),"meet",T.na_Stairs_backs,fun a ha z=>?_,"count",s4.trans s5,Ni xs (?bY),"_law_cells","shrink",[?G,"k",?eH,?k1,?kG],?c2 (by simpa using gR),Dh xs ?a9,g1.trans,T.n_isinstance,lx.keep s1,T.na_Book_pieces,nb a ha,R2.same.trans,(?q8,s.2),ys.length<=40,ms.getD i (0,0),upd H6 E (?o []),σ'=[?l,?dD,?xO ?gN],R4.same,"twists",qa5 (Fn _ _ _) J0,"put_in_order",(Ai Sw),x4.tup,(TA.of R hcl).same,(pv 12),[?G,?bI],Ym ?u i (?d8) (?d5) g a c s,.(by rw[oH];exact h3q),?F hC,.(by simp at e),?xV G l,"loops",upd H5 p (?yN fs),(K w.params).In,"_law_book","share",(?dA,?d P),n.map ?N,"shrink_row",?o (D9 (qI ps)),Str->?gL Value,?wP H [?hS,?kC,?cI,?f 1],?f ?V,"many",fun m hm=>?_,(gp:Int),"gauges",W.isFn,.(by split<;>omega),Ei.mpr rfl,"list","step",VN _ _ Ef,xa.row,?F hE,"rows",?l5 i 0,fun T1 hT1=>?_,?d5 / ?d8,.(by rw[Bu];omega),s1 _ _ hp,(as:?gB),?x M4 hrep,[?S,?bI],fun z=>?_,?vH ?kN hi,Hu m ?s3,"_law_most",[?G,?iC],R.push,?bU Int,(?fU).getD,upd H4 p (?wK fs),(nb:Addr),[?S,?mA,"i"],?wP H [?hS,?dV,?f ?u,?f (-kk)],(t:?sP),T.na_Work_width,(st:Int),List.range,(?mC hv).1,(x.same.trans s1).free,.of y.st,[?Z,?aN,"lines"],(f+d:Nat),?cG g1,g _ _ hp3,[?k4,?bQ,?tG,?hC],[?k6,?r2],?wP G [?hS,?dV,?f (?lI:Int),?f (-qq)],σ'=[?l,iS ?u,?dD,?xO ?fM,?xO (?d8),?xO (?d5)],(z▸R.free),?d la,⟨_,qa0 O9m⟩,"told",[?S,"i","first"],R2.same.free,[?S,"i","j"],s0.free,Zf ns ?c7 ?eS,"backs",T.na_Lines_backs,?d ta,T.na_Lines_rows,?f9 s3,Lat.shrS,qV _ _ _,.(by rw[Ab];rfl),(s:?bR),?wP H3 [?hS,?cI,?kC,?f ?oT],"straighten",x3.tup,"spot",?r hq,qa3.mp,(?mC hx).1,.ad i ?u (-kk),?b5 ?eW,U m M l r,?wP G3 [.str "minus",?f ?gN],"put_in",.of x.nu,?b5 s2,Rows.nil,?c (?f (n:Int)),M9 xs ms i,R2.rep hal,(z:Int),fun(k:Nat)=>Od xs ?a9 ms,upd (upd G1 CF (.own L')) L' (?P Ag CF []),∀(Cw:?yQ Ad),a,.(by obtain⟨tv,dx,fs,hp,l1,l2,l3,l4,l5,l6,l7,hrep⟩:=x.ob),.(by refine On (fun z=>nomatch (show false=true from z)) ?_),∀(Bt:Has P w K mg ?e ?pX ?i1 2 (Ea K)),a,.(by refine(?wI p)),∀(Fw:Has P w K mg ?e ?hN ?cB 10 (J6 K)),a,.(by rw[LQ,qg3,qi1,?a8 (by simpa using gR),ql7,qp0,yl]),∀(Dw:Has P w K mg ?e ?u1 ["k","bound"] 3 (Gd K)),a,.(by obtain⟨r1,b1,r2,b2,lx,ly,f1,f2,f3,f4⟩:=x.li),.(by rwa [?qE]at this),.(by refine⟨P,_,rfl,?r (.of hP),?_⟩;rw[qa2]),.(by first | exact Or.inl rfl | exact Or.inr rfl),.(by rcases ho with⟨_,q⟩|⟨_,q⟩<;>cases q),.(by obtain⟨ci,_,MM,_,LM⟩:=?kZ),.(by refine ?bB (fun h4=>?_) (fun h4=>?_)),.(by obtain⟨Mp,Hl⟩:=T.x_LEVELS),.(by exact ?tU),.(by obtain⟨r,b,lx,_⟩:=y.ex),.(by refine oO ?_;intro o1 y Fd),.ad i j 1,(?t0 RD),xb.there.1,"lifts_of",?r (?r0),T.na_Book_levels,["hole"],?fD ?o6 [],Lat.numAt,x.fr.2.2.2,zU _ ?b3,.of xp.2.1,Ol xs k p n,(?vV _ ?_),o3' g' a b sh,"level_of",fun j hj1 hj2=>?_,⟨rfl,fun i v ps e=>?jZ⟩,?i H7 G,(spot<=i),"is_table","_law_shape_by",.ad j i ?oT,x.keep s1,H0 a=none,?w3 xs.length,fun g' a b G' sh z'=>?_,(e▸ha),Do xs e (?e0-1),Qv Lw T Te Wx,sp.trans,q.1.toNat,"add_faces",base.Ns ?dQ mg,(VI m f).set i (?f g),"_law_cell_at","Stairs.shrink",m5 _ ?b3,"Book.count",Lat.ChainTo,b*f j / g,(?eG,Lat.one),(ls:?bU (?bU Bz)),(?mC hq).1,upd H5 p (?xA Lf),upd H1 B (?o (?dJ)),(z.same RD).there.1,ds.length,(C4 ?hP),?tK w M P,"Work.straighten","is_place_of_level",M4.seq hq,"Lines.__init__",(-(?oF)),"start_of",m4 _ ?b3,(z.symm▸y.mq),upd G' p (?J [?dV,?c9]),?M ?d0 (?b4 L') (?rK),l6c _ ?b3,R.same.free,(s35.trans s56).trans,ok d O9m,?x5 H5,(?lD i).map,(z▸y.mq),(o4:?gL V),.(by have:=pl 0;omega),Vd.of9 O9m h3,i<ms.length,?tF (z-k0) (?N 0),(?c ?gK),(z9 K Aw),⟨bs,Ef,oV,yN⟩,(Ar (?yS hD) R3.free).symm,Lat.Shares,(p:Addr),h.Ns ?dQ mg,Lat.moveS i ?u s,.(by rw[Bu]),Lat.insT,Tr ns ?c7 ?eS,⟨O9m,O9m,O9m,fun c hc=>bT ?a7 ?a7⟩,⟨?j,rfl,x⟩,"Stairs.meet",(us.length:Nat),Y7 xs (?J ds),fun hnd o=>?_,fun jG=>?_,(P:Addr),(?oY).length,upd (upd H2 qM ?sQ) p (?P Ad qM []),⟨_,rfl,_,_,rfl,rfl,_,rfl,?_⟩,"places_of_level",H1 a=none,(?mF).trans,us++[?d t],(DL K Aw),⟨[],rfl,rfl,?mL hD,?j,rfl⟩,ql8 _ ?a7,fun c hc=>?_,"_law_whole",sB _ _ hp,((f:Nat):Int),fun x a=>s.1 x (w+a),VI z (?nJ f k0),((d:Nat):Int),[none,?c 1],[?l,o1],sC.trans,.(show((k.toNat:Nat):Int)=k by omega),"flipped","numbers","numbers_at",(Xi K Aw),?y8 H1,[?G,?bI,"level"],"product",na a (ma a ha),.(by rw[qb1,hcl];rfl),upd G p (?J [?dV,v]),(if ?gK<?tE then ?gK else ?tE).toNat,Lat.downS t i s d,(?hF).filter,"Work.step","Stairs.shrink_row",["parts"],x4.right,?v6 ⟨rfl,fun a ha=>by rw[Ak ha,Ak ha],Ab⟩,"_law_any_shape",(?gG-(?V+1)).toNat,.(by simpa using h3),.of x.st,(?jG).2.2,(?u8,?d Lv),ms.length=5,[?g1,?aN],fun hS G1 s1=>?f7,Lw.binds (ps:=?eV) ?y,g2 _ _ mL,"chain_of",fun j b n e=>?jZ,(o2 o3:?gS),[?hW,?d L'],?xU H',"without_borders",xs.take i,On ?_ ?_,.(by have:=r.length;simpa using this),"is_straight",xb.there.2,fun p=>Ol xs k p.1 p.2,?M ?Z (?b4 E) fs,?eK ?aO (?eK ?aO (?eK ?aO (?eK ?aO (.nil)))),Fk K mg Ag Ad Ah Aw,fun tp htp=>?_,(xs.length:Int),Jb.binds (ps:=?eI) ?X,"Work.put_in_order","_law_turned_order",st _ _ (?yS (?b0 _ _ e)),"Book.twists",⟨rfl,rfl⟩,((i:Nat):Int),upd H1 D (.dK []),?aQ (1<n),?fM<=?lC,(?fD pl.toNat []).length,(Wv ps).take,.(by rw[Iy]),qh0 _ (Int.le_of_lt h2),fun k=>if k=i then g else f k,?c (?c9),(?jG).2.1,sB.trans,upd G1 c (?wQ ?V),qL _ _ Ef,⟨_,rfl,rfl,_,rfl,?_⟩,"Work.share","Book.__init__",(D9 [0,2,3,4]).any,l6 _ ?b3,(?rK).length,(zT ZS zS xG:?gL V),H4 a=?bJ,g3.trans,fun P H2 nP s2 hP=>?_,T.n_enumerate,⟨?f6,?cS,⟨[],[],rfl,Ab,rfl,rfl,fun k n e=>?jZ,?r9⟩,?j,rfl⟩,Hu m (WQ i j g f),?i6/\?k0,Pj Kh T Ge Il,HT.sIx_nat,Nat->Nat,(.own p),.builtin,∀x∈xs,x.length<=4,s1 _ _ hb,"faces_agree",fun H1 s1=>?_,"_law_many_of",(?jH s67),⟨g,Ef,?_,_,rfl⟩,fun gP=>?_,s3.trans,Lat.addS,?aQ (p.1=0),fun e=>eqD e (?f (ds.length:Int)),tI xs[i],?vO G' s',ok.hd j O9m hj2,V3 lu k=?c ?aM,Heap->Prop,.ad i ?bA (-qq),[?m,?L,?a3,?a1,?a0,?b1,?aK,?bT,?cW,?dP,?eY,?R,zT,ZS,zS,xG],fun _=>rfl,?h2 ?cV ?cV (I0 Ss) (Gg Ss) (Av Ss) ?g2 vG VO UR vR pQ vP,?h8 K ?dQ s,(?pP:Int),List.replicate,"_law_many",fun H1 s1=>?f7,"Stairs.put_in",Int.dvd_of_emod_eq_zero,Lat.beside,fun i=>r.1 (k0+i),"Lines.blend",lx.nn a ha e,?pQ=false,"is_whole",qa5 (Fn ..) J0,upd H1 l1 (?o [?f 0]),?b0 _ _ hp,fun c hc=>hb.1 c O9m,?v6 ⟨rfl,s1⟩,((0:Nat):Int),⟨hW.1,fun i v ps e1 e2=>?_⟩,(aC K Aw),G5 c=?bJ,Kh.binds (ps:=?eO) (?vI pC (fun _ _ _ _ _=>rfl)),a=nm\/a=r2'\/a=qN,"check_level",.(show((k+1:Nat):Int)=?bY by omega),"Lines.turn",hW.2 i v ps e1 e2,fun G' z=>?_,"is_list_of_few",(I ?u s),"levels",fun F hF=>?_,WR _ _ x.nu,nb a (mb a ha),.(by rintro i ys τ G hi ⟨g,hi5,⟨bs,ms,rfl,Ef,oV,hml,ok,yN⟩,o,rfl⟩;have gH:=GS.trans g;refine⟨_,rfl,_,rfl,p,xs,0+?V,rfl,⟨p,us,rfl,?vJ gH hp,?aT gH r⟩,hsh,J0,O9m,O9m,fun b n G1 nb g1 hb okn=>?_⟩;have LN:=g1 _ _ Ef;refine⟨LN,?e6,(?lJ).turn hD,O9m,⟨bs++[b],ms++[n],?h1,Ab,by rw[qb1,qb1,oV];rfl,by rw[qb1,hml];rfl,ok.snoc (by rw[hml,show ?V=0+?V by omega];exact okn),?_⟩,_,rfl⟩;have:=La.snoc Ef oV yN g1 (b:=b) (n:=n) (fun z=>by rw[z,Ef]at nb;cases nb) hb;rw[qb0]at this;exact this),.(by rintro i v ys τ G hv Di;revert τ;refine ?fW;intro g Ef yl o Fd;obtain⟨q,hq,pv⟩:=rE.get hv;obtain⟨t,c1,c2,c3,rfl,et,_⟩:=pv.same (?s6 g);have LQ:?s0 ?eQ=?hF++[q]:=by rw[qf5,hq];rfl),.(by obtain⟨p,k,B,xs,ls,rfl,bk,sB,hk0,GQ,kq⟩:=h;obtain⟨Mp,Hl⟩:=T.x_LEVELS;obtain⟨dx,P,Lv,Lf,lu,wu,hp,_,qK,hW,_,_⟩:=bk.ob;obtain⟨E,eu,qs,e1,e2,hE,rE⟩:=hW.at (k:=k.toNat) (by have:=bk.n4;rw[qa2];omega)),.(by refine⟨_,rfl,k,4,rfl,hk0,GQ,?_⟩;refine⟨_,rfl,p,Aw,dx,_,_,rfl,?q6,?c4,?nG,rfl,_,rfl,Lv,lu,_,_,rfl,rfl,?vJ sB qK,hat,E,rfl,⟨_,?vJ sB hE⟩,?bE⟩),.(by obtain⟨r',b',ly,_⟩:=y.ex;obtain⟨qM,fs',EM,_,_,_,l4',_⟩:=ly.ob;refine⟨_,rfl,p,qM,fs',rfl,EM,l4' _ ?b3,_,rfl,_,rfl,_,_,rfl,rfl,?_⟩),.(by rw[qa8]at e2;obtain⟨ps,hps,rfl⟩:=qj0.mp e2;have hpl:=(bk.lev _ _ hps).len bk.len;have nl:(Wv ps).length<=ps.length:=qg2 _ _;have el:=rE.len),.(by refine⟨sF _ _ R.at,?e6,cs++[F],?h1,?qN,?_,_,rfl⟩;refine ?l3 hF sF ?_),.(by rintro i x zs τ G1 hx ⟨cs,rfl,hcl,R,o1,rfl⟩;have hi:i<n:=by have:=?mD;rw[qa2,xa.1]at this;exact this),.(by obtain⟨i,hi,rfl⟩:=qk6 ha;obtain⟨z1,z2,z3⟩:=R.row i _ (?dZ)),∀(C9:Has P w K mg ?e ?oQ ?qK 3 (Fl K)),a,∀(Cm:Kg P w K mg ?e Ad ?k8 ?lT 4 (?vA Ko)),a,.(by exact⟨?cS,fun D hD=>?v6 ⟨D,rfl,?f6,hD,Ab⟩⟩),.(by obtain⟨tvc,dxc,fsc,hpc,l1c,l2c,l3c,l4c,l5c,l6c,l7c,_⟩:=z.ob),.(by obtain⟨c,_,ec,_,hc⟩:=?kZ;rw[ec]at hx;cases hx),∀(Im:Has P w K mg ?e ?sW ?g6 1 (Xd K)),a,.(by rintro ys τ G ⟨g,_,⟨bs,ms,rfl,Ef,oV,hml,ok,yN⟩,_⟩),.(by refine⟨_,rfl,t,_,_,_,rfl,rfl,.of et,rfl,rfl,_,rfl,?_⟩),∀(K6:Has P w K mg ?e ?qL ["one",?h9,?aN] 3 (Q8 K)),a,.(by rintro zs τ G1 ⟨cs,rfl,hcl,R,_⟩;rw[qa2,xa.1]at hcl),.(by revert σ;refine vD ?_;intro us zT ZS zS xG g Ef rU Fd),.(by obtain⟨cs,_,_,R,_⟩:=hz;exact ?cY (.of xa')),∀(Et:Has P w K mg ?e ?hA ?i1 8 (Jk K)),a,.(by have pl:∀k,?dO<=40:=fun k=>?jP),.(by refine(?vV _ ?bE)),.(by obtain⟨g,_⟩:=hz;exact ?vJ g (sB _ _ hE)),.(by rw[qi9 (by rw[qa2,xa.1];exact hi),qa2,xa.1];omega),.(by rw[qi9 (by rw[qa2,xb.1];exact hi),qa2,xb.1];omega),.(by refine⟨_,rfl,la,lu,rfl,?r hlq,?_⟩;rw[yK]),.(by obtain⟨v,n,w,A,Fin,rfl,hv,hn,hw,hP,k⟩:=h),@(qw7 ?a ?g ?_),@(key _ _ ?a),@(fun _ _ _ _=>?a),@(Aa ?a (Aa ?b Ac)),@(fun i ys τ G=>B6 ?a (i<=5) ((∃(bs:?gB) (ms:Am),ys=?dJ/\G D=?dL/\bs.length=ms.length/\ms.length=i/\?hX/\∀(j:Nat) b n,bs[j]?=?c b->ms[j]?=?c n->b≠D/\G b=?c (?o (?k7)))) (Er fun o=>τ=[o,?l])),@(?a K Ag Ad Ah),@(fun F=>?a F T ?b),@(Az ?T ?Y qf9 (Aa ?a Ac)),@(uu ?a (fun F=>?b F T) ?y),@(Bx P w K mg ?e Eu 4 f fd ?a ?b),@(uu ?a (fun F=>?b F T) ?a2),@(?M ?d0 (?d L') (?M ?Z ?aM ?a)),@(?a (K:=K) ?b),@(fun _ _ _ _ _ _=>?a ?b),@(.of (?a _ _ ?b)),@(D7 (fun σ' H'=>σ'=?a/\?aX) ?_ ?gH),@(fun i zs τ G1=>Er fun cs=>B6 (zs=cs.map ?b4) (cs.length=i) ?a (Er fun o1=>τ=[o1,?aW])),@(Ap (i:=2) ?a ?b),@(?r ⟨rfl,_,.of ?a⟩),@(SX Ad H0 ?a p q M n W t i ?b),@(Ii (G6 (An ?a hr ?b))),@(?a K ?b=true),@(by show ?cO<?a;decide),@(Cy (K:=K) (a:=r) (xs:=?f0) ?a ?b (fun i zs τ G1 _ hz=>by ext uW) ?_ ?_),@(?J [?c9,?d lp,?d gp,?d ?a]),@(?I K ?a ?b=?a6),@(⟨?a,rfl,?q,?q,?b⟩),@(Be ?a ?b Aj ?H),@(An ?a hr (Aa (An Et hr (Aa (C8 ?eF ?h ?d3 Db ?aZ) ?W)) ?b2)),@(qj3 X G ?a),@(C6 K ?a ?b),@(?B ?a ?A),@(.frz ?a (.dK (?aP))),@(Rep K (?a) ?eZ (QM ?b)),@(us.length=?a),@(Cb ?h ?aF ?a),@(Ew (K:=K) ?k ?a),@(upd H1 pr (?J [?d bx,?d ?a])),@(show j≠?a by omega),@(fun i j c hi hj hc=>EZ (?a i j hi hj) (?b j c hj hc)),@(Rep K ?a (?dN) (dT (Dh xs (k-1)) ?c8 (Ni xs k))),@(SX Ad H0 ?a p q M n W t cnt ?b),@(Ap (i:=5) ?a ?b),@(Ap (i:=3) ?a ?b),@(?o (Cf (ns.map ?N) ?c7 ?a)),@(?c (?c ?a)),@(fun c hc=>S8 ?a ?b ?a7),@(qu3 X G ?a),@(⟨_,rfl,_,rfl,_,_,rfl,rfl,?a,rfl,_,rfl,?_⟩),@(⟨?a,_,rfl,?aA,rfl,_,_,rfl,_,_,rfl,rfl,?_⟩),@(⟨P,us,rfl,.of ?a,?aT ?b r⟩),@(?P Ah dx (?M ?Z ?aM ?a)),@(?i2 K ?a ?gM=true),@(⟨_,rfl,_,rfl,_,rfl,c,_,rfl,?cY ?a,?u9⟩),@(fun a o e=>sx _ _ (Ar e ?a) (s3 _ _ e)),@(upd G1 F (?o (Cf (VI ?d7 (s.1 i)) ?a ?b))),@(upd ?a T1 (?J ?b)),@(?o (Cf us ?j (?c ?a))),@(Be ?a ?cR (An M5 hr (Aa ?aV Ac)) ?H),@(Bw (Mz ?a ?s ?b hr)),@(Ap (i:=4) ?a ?b),@(⟨_,rfl,p,Aw,dx,_,rfl,?a,?c4,?b,?bH,?_⟩),@(Kg ?aY w K mg ?e ?a ?cP ?eO 2 ?iG),@(Kg ?aY w K mg ?e ?a ?c6 ?eV 3 ?hT),@(Bx ?a w K mg ?e Eu 14 ?b fd ?iR (Ws K)),@(nN9 K ?a),@(by show(?a:Nat)<=sizeLine;decide),@(?i ?a (upd ?b p (?J [?f q.1,?f q.2]))),@(⟨_,rfl,?a,?d4,g.turn ?b,Ab,?_,_,rfl⟩),@(fun z=>?a ?b),@(Bx P w K mg ?e Eu ?a f fd ?cB (?b K)),@(vs d i ?a f l r hv O9m O9m O9m),@(upd ?a C ?cQ),@(Bk (Cq ?a)),@(As (i:=?a) ?eX),@(Bx P w K mg ?e Eu 6 f fd ?a (?b K)),@(Bx P w K mg ?e Eu 5 f fd ?a (?b K)),@(?P Aw dx (?M ?g0 (?d ?a) ?lM)),@(⟨_,_,⟨?a,Tb,Pp⟩,?r6,?o4⟩),@(DC _ _ ?a (s5 _ _ ?b)),@(Ap (i:=1) ?a ?b),@(?C ?a ?aH (Av ?b)),@(B8 ?a (Ai (Nt (N':=[?bQ,?d6]) (cap:=[none,?c 2]) (i:=3) ?aE ?h (by ext n3) ?h ?aC (?w4 ?bZ) (?v7 (As (i:=0) nY)) ?aU (?v7 (An Gf hr (Aa ?n ?aZ))))) Bo),@(σ'=[?m,?L,?a3,?a1,?a0,?b1,?a,?b,none,none,none,none,none,none,none,none]),@(σ'=[?m,?L,?a3,?a1,?a0,?b1,?aK,?bT,?cW,?a,?b,none,none,none,none,none]),@(σ'=[?m,?a,?b,none,none,none,none,none]),@(Eo (K:=K) (n:=2) ?h (Br ?a (Br ?b Em))),@(Bc ?aB ?a Aj ?w),@(An ?a hr ?b),@(Ai (Bw (Dp ?k ?v ?a hr ?b))),@(Bw (G9 (K:=K) qd9 qr6 qr5 Uo ?Q (?v8 ?p (?a (K:=K) qd9 PySem.F.slot_list_pop PySem.F.type_list_pop eF ?Q ?W)))),@(?c (?f ?a)),@(Bx P w K mg ?e Eu ?a f fd ?aH (?vA ?b)),@(fun σ' H'=>σ'=?a/\?b),@(H' ?a=?c (?o ?b)),@(As (i:=0) ?a),@(σ'=[?m,?aI,?l,?bG,rS ?a,none,none,none]),@(WX K Ag Ah H0 ?a p L R nm n w ?iF l r []),@(WX K Ag Ah H0 ?a p L R nm n w ?j ?b r ?eN),@(σ'=[?cA,?aW,?a,none,none]),@(uu ?a ?b (?vI PD (fun _ _ _ _=>rfl))),@(?a xs ?b z k0 L G f l r),@(fun j i=>Wf (?fD (?l5 j 0).toNat []) ((?f1).getD i ?a)),@(LX H' Ag ?a r1' vQ ?j n n ?b (fun a=>a=nm\/a=r2\/a=b2)),@(upd H6 ?a (?P Ah dx (?M ?eT (?d R') (?vG fs)))),@(WX K Ag Ah H0 H' p L R nm n w ?j ?a ?iQ ?eN),@(Q3 K H' tp nm r1 D1 D2 b2 z (?b6) k0 ?a l r),@(σ'=[?l,?dU,o2,?a,?b]),@(σ'=[?m,?aI,?a,?bG,none,none,none,none]),@(Ii (G6 (Az (Dv (K:=K)) ?jD Cc (?v8 ?a ?b)))),@(Bc ?U ?a ?t ?w),@(?i ?a H'),@(?c (.dK (cK ?a))),@(SX Ad H ?a p q (fun a=>?gY) n ?d7 t ?b s),@(σ'=[?m,?R,?a1,?a0,?eE,?f4,?a3,?a]),@(uu ?a ?b ?y),@(fun _=>?v6 ⟨?a,rfl,rfl,?q,?q⟩),@(Rep K H' (?d ?a) ?b),@(Rep K H' (?a) (dT (?cL) (?cL) ?eG)),@(FI ?a w K mg ?e Ag ?eI 1 (?vA Mr)),@(?I K ?a ?hM=?fK),@(upd H2 b (?w1 ?a)),@(LX H' Ag R r2 b2 ?j w w ?a (?i8)),@(C8 ?eF ?h ?d3 Db ?a),@(Bx P w K mg ?e Eu 4 f fd ?a (?vA ?b)),@(?bB (fun _=>?_) (fun _=>?v6 ?a)),@(?P Ah dx (?vG ?a)),@(⟨?a,_,?u,_,rfl,rfl,Ab,?_,?c5 ?b,?qW⟩),@(Kg P w K mg ?e ?a ?cP ?eO 2 ?iG),@(Kg P w K mg ?e ?a ?c6 ?eV 3 ?hT),@(σ'=[?cA,?aW,rS ?a,?l,o4,none]),@(s2 _ _ ?a),@(fun i ys τ G ?a hz=>by ext v0),@(H ?a=none),@(Bc ?U ?a ?n ?w),@(⟨_,_,⟨?a,Qx,N5⟩,?tZ,?sN⟩),@(σ'=[?l,?L,?gV,?c ?a,?fX,?R]),@(?h8 K ?dQ ?a=?wE ?b),@(fun σ' H'=>Og fun ?pG ?fL (xs:Am)=>Hq (?xI ?aI ?l) ?a (H' p=?dB) (Reps K H' us (xs.map tI)) (Cg xs) (xs.length<=40)),@(σ'=[?l,?bW,?c (?cI),?xO (f i),?xO (f ?a),rS P]),@(Az ?T ?Y qf9 ?a),@(Ai (Bd ?a)),@(Kc (v:=?f ?a) ?h Hl ?aO),@(Bw (G9 (K:=K) qd9 qh9 qh8 Ft ?a (Aa ?b Ac))),@(Aa (C7 (Aa Nu ?a)) Ac),@(As (i:=?a) ?b),@(Ap (i:=?a) ?aR ?b),@(Cv ?c1 ?k ?a (C4 ?b)),@([?l,?bW,?c (?cI),?xO (f i),?xO (f ?a),none]),@(Og fun ?p6 ?lA ?m6=>Fc (?yR L) ?a (J ?b t s)),@(Bf ?a ?b Aj),@(Er fun o=>τ=?a),@(insAt ?u (?d ?a) ((?b).eraseIdx i)),@(Aa ?a Ac),@(Aa ?k (?v8 ?a (Bc ?U (pv ?b) ?jU ?w))),@(Bw (?xL Dw (?v8 ?n ?a))),@(fun σ' H'=>Fc (?z0 j) (Ed K H' P ?iI) ?a),@(B8 (?vW En (?zB E9 ?a)) (Ai ?b) Bo),@(⟨_,(?z2 ?a),?_⟩),@(B8 ?a ?bO Bo),@(Bb (K:=K) ?a),@(Bw (Dp ?Q ?b9 Kf hr (?z5 (Aa ?a ?b)))),@(Bc ?U ?a ?b ?w),@(An C5 hr (Aa ?a ?b)),@(Ci qb9 rfl (?w4 ?a) (?x7 3) ?b),@(Ap (i:=?a) ?bL ?b),@(B7 (N':=?r4) (cap:=?qB) ?h ?aC (?vH B5 (?zL ?t)) (?v7 (?xS NX)) ?aU ?a),@(Az (?vH N4 ?h) T.n_all Qe (?zE ?a)),@(Ai (B8 ?a (?xM Cw (?z5 ?b)) Bo))])
noncomputable abbrev GA:Stmt:=top 8
theorem iU:?C ?qK ?jV (Av GA):=Bg
theorem SE[?E](F:Ey K ?iS ?iS GA f fd)[?D](Fu:Has P w K mg ?e ?nQ ["piece"] 1 (Lh K))(N9:Has P w K mg ?e ?sU [?G,"faces"] 1 (Ox K))[?uL]:?vE ?jV (iQ K):=by
 refine ?w0 iU;obtain⟨a,th,d,xs,rfl,hL,hd,k⟩:=h;obtain⟨v5,q9,c8⟩:=T.x_FACE_COUNTS;have aM:=hr.u8
 refine⟨_,(Ae (?zK (PW.pt (NF (?y6 ?n (Iw (v:=.ty ?gP) rfl T.n_tuple Jg rfl)) (gB (Be (?vH K4 aM) (?z1 ?W) (Kc (v:=?d v5) ?h q9 rfl) rfl)))))
  (Ae (?vM iU.nd (?xL Fu ?W))
  (Ae (?zK (Ii (G6 (?zS (B7 (N':=["face",?G,"level"]) (cap:=[none,?g4,?c 2]) ?h ?aC (?vH Ta ?n) (?v7 (?xS Ai0)) ?aU (?v7 (?xL C9 (Aa ?n (Aa ?k (Aa (?zB G7 ?p) Ac))))))))))
  (?z2 (Ag8 (Lm Sz ?p Aj ?H) (Nv (?xL N9 ?bS))))))),?_⟩
 ext K
 refine⟨_,rfl,_,_,d,rfl,.inr (.inr (.inr (.inl rfl))),hd,_,rfl,?_⟩;cases d with
 | non=>ext e3
 | bl b=>ext e3
 | int i=>ext e3
 | str z=>ext e3
 | lst es=>ext e3
 | tup ds =>
   obtain⟨pa,us,rfl,hq,r⟩:=id hd;have ul:?w3 ds.length:=r.length;refine On (by simp[JD]) ?_;refine⟨_,rfl,pa,us,rfl,?O hq,?f (us.length:Int),D9 [0,2,3,4],rfl,?O ⟨_,_,rfl,c8 H,?kJ⟩,(by rw[Kj];decide),_,rfl,?_⟩;rw[ul]
   have cnt:(! ?sC ?t3)=! ?gW:=by
    have:?sC (?t3)=?gW:=by
     simp only[D9,qd5,qt9,qm2,List.any_nil,eqD,CN];rw[qm7];simp only[qq6,qv7,Bool.or_false];omega
    rw[this]
   by_cases hc:?gW=true;rotate_left
   . have hc':?gW=false:=by simpa using hc
     refine BY (by rw[?cU,cnt,hc'];rfl) ?_;have e2:?tO:=by rw[Qc];simp[hc']
     rw[e2]at k;ext e3
   refine On (by rw[?cU,cnt,hc];simp) ?_;have hn4:ds.length<=4:=(tW hc).1;refine⟨_,rfl,_,ds,rfl,?O hd,?_⟩;refine⟨_,rfl,pa,rfl,⟨_,hq⟩,?bE⟩
   let Bf0:?aJ:=fun i ys τ H1=>B6 (?i H H1) (H1 D=?dL) (ys=((ds.take i).map fun e=>V.bl (?o3))) (?zC [o,?m,?xO (?e0)])
   refine Qd (K:=K) (a:=pa) (xs:=us) Bf0
    ?gE (fun i ys τ H1 _ hz=>by obtain⟨s1,_⟩:=hz;exact s1.seqT hq) ?_ ?_
   . rintro i x ys τ H1 hx Di;revert τ;refine ?fW;intro s1 Eg hys o Fd;have hi:i<us.length:=?mD;obtain⟨e,he,re⟩:=r.getV hx;refine⟨_,rfl,_,rfl,_,rfl,_,_,rfl,rfl,a,x,e,_,xs,rfl,?dK,?x s1 re,?_⟩;refine⟨Eg,?c5 (by rw[hys,qa2,qc1];omega),s1.turn hD,Ab,?_,_,rfl⟩;rw[qf5,he,qb0,hys];rfl
   . rintro ys τ H1 ⟨s1,Eg,hys,_⟩;rw[ul,qd2]at hys;have A47:ys=(ds.map ?e9).map V.bl:=by rw[hys,qm0];rfl
     rw[A47]at Eg;refine⟨D,_,rfl,.of Eg,_,rfl,?_⟩;have Ao4:(ds.map ?e9).all id=ds.all ?e9:=by rw[List.all_map];rfl
     by_cases ha:(ds.all ?e9)=true;rotate_left
     . have ha':(ds.all ?e9)=false:=by simpa using ha
       refine BY (by rw[Ao4,ha'];rfl) ?_;have e2:?tO:=by rw[Qc];rw[ha',hc];rfl
       rw[e2]at k;exact ?hY
     refine On (by rw[Ao4,ha];simp) ?_;have e2:?pQ=(?aQ (?e0<2) || Mj xs (ds.map uL)):=by rw[Qc];rw[ha,hc];rfl
     rw[e2]at k;refine ?pW;ext fH
     . have h2:(?aQ (?e0<2))=true:=h1;rw[h2]at k;exact ?hY
     . have h2:(?aQ (?e0<2))=false:=?cC
       rw[h2]at k;have hint:=FD ha
       have tv:TI K H1 (?d pa) (ds.map uL):=by
        have:=?x s1 hd;rw[hint]at this;exact this
       refine⟨_,rfl,_,rfl,a,_,xs,ds.map uL,rfl,?dK,tv,by simpa using hn4,?_,?hY⟩;intro f hf;rw[qe9]at ha
       have hm:L2.D.int f∈ds:=by
        rw[hint];exact qf2.mpr ⟨f,hf,rfl⟩
       have:=ha _ hm;simp only[Do,qc8,qp3]at this;obtain⟨⟨f0,f1⟩,f2⟩:=this;refine⟨f0,f1,?_⟩;rw[qa2];rw[BV,BV]at f2;have h3:¬?e0<2:=?bC
       rw[BV]at h3;omega
noncomputable abbrev Ug:Stmt:=top 13
theorem fX:?C ?iN ?iN (Av Ug):=Bg
theorem GF[?E](F:Ey K ?hE ?hE Ug f fd)[?D][?uL](Fv:Has P w K mg ?e ?tP ?dX 1 (Jc K)):?vE ?iN (Xc K):=by
 refine ?w0 fX;obtain⟨a,xs,k,p,n,rfl,hL,kq⟩:=h;refine(?zJ (Mb (?xL C9 (Aa ?k (Aa ?p ?W))) (Mb (?xL Fv ?eR) (Nv (Lm Ln ?t Aj ?H)))));refine⟨_,rfl,_,rfl,_,rfl,a,?f p,?f p,k,xs,rfl,hL,rfl,_,rfl,?_⟩;refine ?bB (fun e=>?_) (fun e=>?_)
 . refine⟨_,rfl,_,?f n,rfl,rfl,_,rfl,?_⟩;refine BY rfl ?_;refine⟨_,rfl,rfl,?_⟩
   have e2:?nN=! ?aQ (?N n=?N 0):=by
    unfold Ol;rw[e];by_cases z:n=0
    . subst z;simp
    . simp[z]
   rw[e2]at kq;exact kq
 . have e2:?nN=false:=by unfold Ol;simp[e]
   rw[e2]at kq;exact kq
noncomputable abbrev F5:Stmt:=Ex ?h3 4
theorem El:?C [?S,"i","first","j","at","quotient"] ?lT (Av F5):=Bg
theorem Pi[?E](F:Ey K ?k8 ?qT F5 f fd)[?D][?mS]:?yL ?lT Ko:=by
 refine ?w0 El;obtain⟨H0,p,q,M,n,W,t,cnt,s,i,f,rfl,x,hi,hf,hif,hds,ok,k⟩:=h;ext iX;obtain⟨r,b,lx,_⟩:=x.ex;ext cE
 refine⟨_,(Ai (Ci qb9 rfl (aF ?h ?aF (?v8 ?p ?eD)) (?z6 3 El.nd) (Ae (?wT El.nd (?y7 ?Q))
  (Ae (?wB El.nd (Bf K0 (?zN ?aV ?a4) (?zN (?y7 ?Q) ?a4)))
  (?zT (?vW Ln ?b7) (Aa ?n (?v8 ?t (My Hx ?b7)))))))),?_⟩
 refine⟨_,rfl,_,rfl,p,Ad,dx,fs,_,rfl,hp,?v,?c0,l3,q,_,rfl,?nF,(f:Int),(cnt:Int),?pJ,O9m,?_⟩;rw[show(((cnt:Nat):Int)-?q7).toNat=cnt-f by omega];clear lx hp l1 l2 l3 l4 l5;refine Co (lo:=(f:Int)) (n:=cnt-f) (fun d σ G=>Og fun o3 o4 o5=>σ=[?l,?dD,iS f,o3,o4,o5]/\?wA G (?h4)) ⟨?j,?j,?j,rfl,x⟩ ?_ ?_
 . rintro d σ G hd Di;revert σ;refine vE ?_;intro o3 o4 o5 y Fd;ext n9;ext cE;ext iW;obtain⟨h1,h2,h3⟩:=hds ?bA O9m O9m;have bo:=?p2;have ej:?q7+?qA=((?lI:Nat):Int):=O9m
   rw[ej];have hji:f+d≠i:=O9m
   have er:(?h4).1 ?bA=s.1 ?bA:=Xl t i f s d _ hji;ext n5;obtain⟨cj,_,ecj,_,hcj⟩:=?vH ?kN (show f+d<n by omega);rw[er]at hcj;refine⟨_,rfl,p,Ad,dx,fs,_,rfl,hp,?v,?c0,l3,_,rfl,q,_,_,_,rfl,rfl,?lG,?h0,?_⟩;refine⟨_,rfl,p,Ad,dx,fs,_,rfl,hp,?v,?aG,l1,_,rfl,r,_,_,_,rfl,rfl,?bK,?iO,_,rfl,ci,_,_,_,rfl,rfl,LM,?g9,_,rfl,p,Ad,dx,fs,_,rfl,hp,?v,?aG,l1,_,rfl,r,_,_,_,rfl,rfl,?bK,Bk ecj,_,rfl,cj,_,_,_,rfl,rfl,hcj,?g9,_,_,rfl,rfl,?p8,?_⟩;have hsx:∀G',?wA G' (?t1 i ?bA (-(?hG)) (?h4))->?wA G' (?m3 t i f s (d+1)):=fun G' z=>z.re (by rw[Lat.shrS,er]);have hq:(?hG).natAbs<2 ^ big:=Lat.fdiv_small h2 (bo.1 i _ hi h1);refine Aq (fun σ' H'=>σ'=[?l,?dD,iS f,?c (?f (?lI:Int)),?c (?f ((t ?bA:Nat):Int)),?xO (?hG)]/\G=H') ?_ fun key=>?v6 ⟨by rw[←?s2];rfl,rfl⟩;rintro _ _ ⟨rfl,rfl⟩;generalize ?hG=qq at hsx hq;refine ?s9;ext n6
   . refine⟨_,rfl,p,dx,fs,rfl,hp,?dR,_,rfl,_,rfl,_,rfl,_,rfl,?b8,?kR⟩;have s1:?i G (?lN):=?eP;have hT:?w2 ?lN (?t9):=?i5
     generalize ?lN=G1 at s1 hT;refine⟨p,?dI,Ad,r,b,_,n,W,_,_,?t9,rfl,?iL,?jE,hT,⟨hi,O9m,?x2 hji z.symm,?wF (by rw[qc7];exact hq) (bo.1 _ _ O9m hc)⟩,⟨O9m,hi,hji,?wF (by rw[qc7,qc7];exact hq) (bo.2 _ _ hi hc)⟩,O9m,O9m,?hL⟩;exact⟨_,_,_,rfl,hsx _ (y.redo s1 sx n1 n2 z)⟩
   . have h5:qq=0:=?h6
     subst h5;exact⟨_,_,_,rfl,hsx _ (y.re (Lat.addS_zero _ _ _).symm)⟩
 . ext e2;refine vE ?_;intro o3 o4 o5 y Fd;exact k _ y
noncomputable abbrev No:Stmt:=Ex ?gT 4
theorem Ir:?C [?S,"i","j","one",?h9,?eH] ?lV (Av No):=Bg
theorem e9[?E](F:Ey K ?k5 ?sA No f fd)[?D](Kf:?yQ Ag)(Me:?yP Ag):?yL ?lV aB:=by
 refine ?w0 Ir;obtain⟨H0,p,L,R,nm,n,w,m,i,j,l,r,f,rfl,x,hij,hj,mn,mw,ok,k1,k2⟩:=h;obtain⟨qJ,QI⟩:=x.sm;ext fE;ext n0;obtain⟨p1,p1'⟩:=ok.p1;obtain⟨p2,p2'⟩:=ok.p2
 refine⟨_,(Ae (?wC Ir.nd ?aV)
  (Ae (?wT Ir.nd ?cR)
  (Ai (B8 (?vW Ln (Bf E9 ?a4 ?t)) (Ae (?zM ?n (Aa ?p ?bZ))
  (Ae (?wB Ir.nd (Dp ?Q ?b9 Me hr (Aa ?n (Aa ?p (Aa ?t ?e7)))))
  (Ae (?zM ?p (?v8 ?n (My Hx (Bf K0 (Bf op_mulX ?iK ?a4) ?iK))))
  (Ae (Ky ?iK (Kz ?Q ?n Fm))
  (Ai (Ky (Bf op_mulX (Bf K0 ?t ?iK) ?a4) (Kz ?Q ?p Fm))))))) Bo)))),?_⟩
 ext K
 refine⟨_,rfl,p,Ah,GY,GU,_,rfl,hpa,?s,?cJ,VF,_,rfl,nm,_,_,_,rfl,rfl,?mJ,?x6 (show i<m by omega),?_⟩;refine⟨_,rfl,p,Ah,GY,GU,_,rfl,hpa,?s,?cJ,VF,_,rfl,nm,_,_,_,rfl,rfl,?mJ,?x6 hj,?_⟩;refine ?vK (?z9 j);ext aL;refine(?wH p1);ext fH;rotate_left
 . have h2:f j%f i=0:=?cC
   exact k1 (?tJ h2)
 ext K
 obtain⟨dl,fl,hL,_,_,_,m4,_⟩:=lx.ob;refine ?v5 (fun σ' H'=>σ'=(?z9 j)/\∃r1 b1,?xV H' ?gJ/\LX H' Ag L r1 b1 ?j n n ?gJ (fun a=>a=nm\/a=r2\/a=b2)/\?yJ r/\H0 r1=none/\H0 b1=none)
 . refine⟨_,rfl,p,Ah,GY,GU,_,rfl,hpa,?s,?dG,XY,L,dl,fl,rfl,hL,?oV,_,rfl,_,rfl,?b8,?kR⟩;have s1:?i H (?kB):=?eP;have hT:?w2 ?kB (?nB):=?i5
   generalize ?kB=G1 at s1 hT;refine⟨L,?dI,Ag,r1,b1,_,n,n,l,_,?nB,rfl,?bD,?jE,hT,?pM,?pM,O9m,O9m,?hL⟩;obtain⟨y1,y2⟩:=x.left lx ly f3 f4 s1 sx n1 n2 z;exact ?v6 ⟨rfl,r',b',y1,z,y2,?lF n1,?lF n2⟩
 refine Kl fun H2 cX=>?_;intro sq;obtain⟨r1',vQ,x2,xX,ly2,f1',f2'⟩:=cX;obtain⟨tvb,dxb,fsb,hpb,l1b,l2b,l3b,l4b,l5b,l6b,l7b,_⟩:=x2.ob;obtain⟨dr,fr,hR,_,_,_,m5,_⟩:=ly2.ob;refine qw7 (fun σ' H'=>V6 fun ?pT (g a b:Int)=>Hq (?z0 j) (?pF (f i) (f j) g a b) (Ed K H' P ?iI) (?y2 ?gJ) (?y0 L ?gJ) (?yJ ?iQ)) ?g ?_
 . refine⟨_,rfl,p,Ah,dxb,fsb,_,rfl,hpb,?s,?e4,l4b,R,dr,fr,rfl,hR,?oC,_,rfl,_,rfl,_,rfl,_,rfl,?_⟩;refine⟨R,Ag,r2,b2,_,w,w,i,j,f i,f j,r,_,rfl,?bD,ly2,O9m,O9m,O9m,O9m,O9m,p1,p2,p1',p2',ok.br,fun P g a b G fr kp hT sh z=>?_⟩;obtain⟨y1,y2⟩:=x2.right xX ly2 f1' f2' f3 f4 fr kp z;exact ?v6 ⟨P,g,a,b,rfl,sh,hT,y1,y2,z⟩
 refine Ac2 fun P g a b H3 sh YR x3 ZT ly3=>?_;intro sq;obtain⟨tvc,dxc,fsc,hpc,l1c,l2c,l3c,l4c,l5c,l6c,l7c,_⟩:=x3.ob;obtain⟨dl3,fl3,hL3,_,_,_,m6,_⟩:=ZT.ob;have g0:=sh.pos;have lg:g.natAbs<L9:=qc0 (Nat.le_of_dvd (Int.natAbs_pos.mpr O9m) (qu0.mpr sh.dA)) p1';have lb:b.natAbs<L9:=qc0 sh.lb p1';have cb:∀z:Int,Vd z g:=fun z=>Vd.of9 O9m lg;have ek:∀z:Int,z.fdiv g=z / g:=fun z=>qh0 _ O9m;have lk':(?oF).natAbs<2 ^ 18000:=qc0 (qh4 _ _) (A28 lb p2');refine ?v5 (?zH (?y2 (ZQ i j g b f l)))
 . refine⟨_,rfl,p,Ah,dxc,fsc,_,rfl,hpc,?s,?dG,l3c,L,dl3,fl3,rfl,hL3,m6 _ ?b3,_,rfl,_,rfl,_,rfl,P,_,_,_,rfl,rfl,YR,rfl,_,rfl,_,_,rfl,rfl,bU lb p2',_,rfl,P,_,_,_,rfl,rfl,YR,rfl,_,_,rfl,rfl,cb _,_,rfl,?b8,?_⟩;rw[ek];intro T1 hT1;have s1:?i H3 (?m7):=?eP;have hT:?w2 ?m7 (?nX):=?i5
   generalize ?m7=G1 at s1 hT;refine⟨L,?dI,Ag,r1',vQ,_,n,n,_,_,?nX,rfl,?bD,ZT.keep s1,hT,⟨O9m,O9m,O9m,?wF (by rw[qc7];exact lk') (ok.bl.2.1 _ _ O9m hc)⟩,⟨O9m,O9m,O9m,?wF (by rw[qc7,qc7];exact lk') (ok.bl.2.2 _ _ O9m hc)⟩,O9m,O9m,?hL⟩;obtain⟨y1,_⟩:=x3.left ZT ly3 f3 f4 s1 sx n1 n2 z;exact ?v6 ⟨rfl,iO (s1.seqT YR) (s1 _ _ hL3) sx,y1⟩
 refine iH fun H4 hT4 x4=>?_;intro sq;obtain⟨tvd,dxd,fsd,hpd,l1d,l2d,l3d,l4d,l5d,l6d,l7d,_⟩:=x4.ob;refine⟨_,rfl,P,_,_,_,rfl,rfl,hT4,rfl,_,rfl,p,Ah,dxd,fsd,_,rfl,hpd,?s,?cJ,l5d,_,rfl,nm,_,_,i,rfl,rfl,x4.nu,Kd (?kT),?_⟩;have e1:?o9=(?l0).map ?N:=mW O9m;have x5:=x4.num (ns':=?l0);rw[←e1]at x5;have hT5:Ed K (upd H4 nm (?o (?o9))) P ?iI:=Af0 hT4 x4.nu;refine D7 (?zH (WX K Ag Ah H0 H' p L R nm n w ?j (ZQ i j g b f l) ?iQ (?l0))) ?_ fun Ju=>Ju _ _ ⟨rfl,hT5,x5⟩;refine iH fun H6 hT6 x6=>?_;intro sq;obtain⟨tve,dxe,fse,hpe,l1e,l2e,l3e,l4e,l5e,l6e,l7e,_⟩:=x6.ob;have lA:(f i / g).natAbs<L9:=qc0 (qh4 _ _) p1';refine⟨_,rfl,_,rfl,P,_,_,_,rfl,rfl,hT6,rfl,_,_,rfl,rfl,cb _,_,rfl,_,_,rfl,rfl,(by rw[ek];exact bU lA p2'),_,rfl,p,Ah,dxe,fse,_,rfl,hpe,?s,?cJ,l5e,_,rfl,nm,_,_,j,rfl,rfl,x6.nu,Kd (by rw[Bu];exact hj),?_⟩;rw[ek]
 have e2:(VI m ?s3).set j (?f (f i / g*f j))=(?sL).map ?N:=by
  rw[mW hj];show VI m _=VI m _;refine P0 ?q4;unfold WQ Lat.put2;by_cases z1:c=j
  . subst z1;rw[?cU,?hO,?cU]
  . rw[?a8 z1];by_cases z2:c=i
    . rw[?c2 z2,?c2 z2]
    . rw[?a8 z2,?a8 z2,?a8 z1]
 have x7:=x6.num (ns':=?sL);rw[←e2]at x7;exact k2 g a b _ sh x7
noncomputable abbrev Re:Stmt:=top 68
theorem C0:?C [?G,"k",?eH,?k1,?kG,?kD,?aN,?qG,"turned_loops","turned_gauges","fillings",?lS,"i",?f5,"filling","loop"] ?j9 (Av Re):=Bg
theorem dW[?E](F:Ey K ?gX ?gX Re f fd)[?D][?uT][?fF][?mV](M6:Has P w K mg ?e ?r8 [?G,"k",?g1] 3 (z8 K)):?vE ?j9 (Vh K):=by
 refine ?w0 C0;obtain⟨a,tp,nm,r1,D1,D2,b2,vl,vg,xs,k,z,k0,w,L,G,f,l,r,rfl,hL,J0,hw,hvl,hvg,x,hz,hkz,hkw,hf0,bl1,bl2,bL,bG,kq⟩:=h;obtain⟨la,lu,rfl,hlq,yK,_⟩:=Hj hvl;obtain⟨ga,gu,rfl,_,_,_⟩:=Hj hvg;have hm:?dO<=40:=?jP;have hwl:w<=40:=by rw[hw];exact ?jP
 refine⟨_,(Ae (?wB ?aR (?z1 ?eR))
  (Ae (?z7 6 (?vC (?xL Bt ?bS)))
  (Ae (?z7 7 (Bf (Ij (K:=K)) ?bX (Bf NQ (E8 ?bZ) (Bf G7 ?b7 (?vC ?bX)))))
  (Ae (?z7 8 (?xL K6 (Aa (?zO ?bX ?dS) (?v8 ?t ?d1))))
  (Ae (?z7 9 (?xL K6 (Aa ?bX (?v8 ?a4 ?d1))))
  (Ae (Ap (i:=10) ?aR (?xL C5 (?v8 ?bX (?z1 (?zE ?bX)))))
  (Ae (?z7 11 ?gA)
  (Ae (Ci qb9 rfl (Sx (K:=K) ?h ?sJ (?zE ?hP)) (?xJ (?z6 12 ?aR) (?z6 13 ?aR)) (Ae (?z7 14 (X2 (?vW En (pv 13)) Sy (?xL M6 (?zF (Bf Cl ?n Aj) 10))))
  (Ae (?z7 15 (?xL M6 (?zF ?n 8)))
  (Ai (?z4 (pv 11) (C7 (Aa (pv 13) (Aa (pv 15) (Aa (?xL M6 (?zF ?n 9)) (?zE (pv 14)))))))))))
  (?z2 (pv 11)))))))))),?_⟩
 ext K
 refine ?v5 (fun σ' H'=>?xG none none/\?aX)
 . ext v3;ext iV
 ext aL;refine ?v5 (fun σ' H'=>?xG ?aK none/\?eC)
 . refine⟨_,rfl,_,rfl,a,k,xs,rfl,hL,O9m,fun P H1 nP s1 hP=>?_⟩;ext n2;ext n8
 ext iU;refine ?v5 (fun σ' H'=>Er fun(nn:Addr)=>Fc (?xG ?aK ?bT) ?cN (?xR nn (?q9)))
 . have x1:=?c3 s1;refine⟨_,rfl,tp,_,_,_,rfl,rfl,x1.tup,rfl,?b8,fun l1 hl1=>?_⟩;have s2:?i H1 (?tR):=?F hl1;have e2:upd H1 l1 (?o [?f 0]) l1=?c (?o [?f 0]):=Ab;generalize ?tR=H2 at s2 e2;have x2:=x1.same s2;refine⟨_,rfl,_,rfl,tp,_,_,_,rfl,rfl,x2.tup,rfl,nm,_,rfl,?r x2.num,_,_,rfl,rfl,l1,_,_,rfl,rfl,e2,?_,?_,?_,fun l2 hl2=>?_⟩
   . rw[Bu];omega
   . rw[Bu];omega
   . rw[Bu];exact Bs (by simp;omega)
   have er:(?tF (?mP-(((VI k0 f).length:Nat):Int)).toNat [?N 0]).flatten=?pA:=by
    rw[Bu,show(?mP-?gF).toNat=z-k0 by omega];generalize z-k0=n
    induction n with
    | zero=>rfl
    | succ n ih=>rw[qj1,ql5,ih];rfl
   rw[er];have s3:=?f9 (?F (o:=?o (?pA)) hl2);have x3:=x1.same s3;refine⟨nm,l2,_,_,rfl,rfl,x3.num,?aA,Bs (by rw[Bu,qk9];omega),fun nn hnn=>?_⟩;refine ?v6 ⟨nn,rfl,(?b5 s3).trans (?F hnn),?_⟩;rw[Ab,gI hkz]
 refine Sg fun nn H2 s2 hnn=>?_;intro sq;refine ?v5 (fun σ' H'=>Er fun(tl:Addr)=>Fc (?xH none none) ?iM (?yE tl (dT z ?c8 (?fC z l.2 L))))
 . have x2:=?c3 s2;refine⟨_,rfl,tp,_,_,_,rfl,rfl,x2.tup,rfl,_,rfl,?d D1,z,z,_,rfl,x2.lback,O9m,O9m,fun F as H3 hal R3=>?_⟩;refine⟨_,rfl,_,rfl,?d F,?lQ,z,z,?dO,_,_,rfl,R3.rep hal,?x (?f9 ?f2) hvl,O9m,O9m,O9m,?w8 bl2 bL,fun tl at_ H4 cW R4=>?_⟩;exact ?v6 ⟨tl,rfl,R3.same.trans ?jN,R4.rep cW⟩
 refine Sg fun tl H3 s3 cW=>?_;intro sq;have s23:=?m2;refine ?v5 (fun σ' H'=>Er fun(tg:Addr)=>Fc (?xH ?dP none) (?y8 H3) (?yE tg (dT z ?c8 (?fC z l.1 G))))
 . have x3:=?c3 s23;refine⟨_,rfl,tp,_,_,_,rfl,rfl,?m9,rfl,_,rfl,_,rfl,?d r1,?fO,z,z,?dO,_,_,rfl,x3.left,?x s23 hvg,O9m,O9m,O9m,?w8 bl1 bG,fun tg at_ H4 htg R4=>?_⟩;exact ?v6 ⟨tg,rfl,?jN,R4.rep htg⟩
 refine Sg fun tg H4 s4 htg=>?_;intro sq;have mK:=s23.trans s4;refine ?v5 (fun σ' H'=>Er fun(fi:Addr)=>Fc (?xH ?dP ?eY) (?y8 H4) (?yE fi (dT w w r.1)))
 . have x4:=?c3 mK;obtain⟨_,du,ez,hdq,A82,_⟩:=Hj ?qV;cases ez;refine⟨_,rfl,tp,_,_,_,rfl,rfl,?jS,rfl,_,rfl,tp,_,_,_,rfl,rfl,?jS,rfl,D2,du,rfl,?r hdq,?_⟩;rw[A82];refine⟨?f8,w,w,_,rfl,?qV,O9m,O9m,fun fi at_ H5 YL R5=>?_⟩;exact ?v6 ⟨fi,rfl,R5.same,R5.rep YL⟩
 refine Sg fun fi H5 s5 YL=>?_;intro sq;refine ?v5 (fun σ' H'=>Er fun ?hJ=>B6 (σ'=[?m,?L,?a3,?a1,?a0,?b1,?aK,?bT,?cW,?dP,?eY,?R,none,none,none,none]) (?y8 H5) (H5 D=none) (?xR D []))
 . ext uN
 refine v9 fun D H6 s6 nD hD=>?_;intro sq;have s25:=mK.trans s5;have Ak9:=((?t0 s4).trans s5) _ _ hnn;have A54:=?x (?j5) cW;have A55:=?x s5 htg;have hL5:=?x s25 hL;refine ?v5 (fun σ' H'=>bB fun ?fL ?sF=>B6 (σ'=?tA) (?y8 H5) (H' D=?dB) (B4 H' us (?xY Gh k)))
 . refine⟨_,rfl,nn,rfl,⟨_,?vJ s6 Ak9⟩,?_⟩
   let Be9:?dC:=fun i σ G'=>bB fun ?fL ?sF=>B6 (σ=?tA) (?i H5 G') (G' D=?dB) (B4 G' us (?p4 (?xY HX k)))
   refine Y6 (K:=K) (a:=nn) (xs:=?q9) Be9
    ⟨[],?j,?j,?j,?j,rfl,s6,hD,trivial⟩ (fun i σ G' _ hz=>by obtain⟨_,_,_,_,_,_,g,_⟩:=hz;exact ?vJ g Ak9) ?_ ?_
   . rintro i v σ G' p hv Di hp
     and_intros
     ext uV;have hi:i<z:=by have:=?lE;rwa [Bu]at this
     rw[Cq hi]at hv;cases hv;have qR:?w3 i:=by have:=rU.len;rw[qa2,qj2]at this;exact this
     have sp:?i G' (?oX):=?i3;have ep:upd G' p (?J [?dV,?c9]) p=?c (?J [?dV,?c9]):=Ab;refine⟨p,_,rfl,.of ep,rfl,_,_,rfl,_,_,rfl,rfl,?_⟩;generalize ?oX=G1 at sp ep;have g1:=?cG sp
     have rows:∀(t:Addr) (h w':Nat) (M:Lat.Mat) (G2:Hp),Rep K G2 (?d t) (dT h w' M)->i<h->∃tu b,SqL K G2 t tu/\V3 tu ?V=?c (?d b)/\SqL K G2 b (VI w' (M i)):=fun t h w' M G2 hr hih=>by
      obtain⟨_,tu,ez,hq,hl,N6⟩:=Hj hr;cases ez;obtain⟨u,hu⟩:∃u,tu[i]?=?c u:=⟨tu[i],qa0 O9m⟩
      obtain⟨_,b,rfl,hb⟩:=N6 i u hu;exact⟨tu,b,hq,Bk hu,hb⟩
     refine ?v5 (fun σ' H'=>Er fun(fl:Addr)=>Fc (σ'=[?m,?L,?a3,?a1,?a0,?b1,?aK,?bT,?cW,?dP,?eY,?R,?bW,?s4,rS fl,xG]) (?y8 G1) (H' fl=?y9 (if ?g5=0 then [] else tX xs (k+1) (r.1 i))))
     . refine ?s9;ext fH
       . have e0:?g5=0:=?cC
         refine fun fl hfl=>?v6 ⟨fl,rfl,?F hfl,?_⟩;rw[Ab,?c2 e0];rfl
       . have e0:¬?g5=0:=?cC
         have hik:i<k0:=by
          by_cases hh:i<k0
          . exact hh
          . unfold Lat.numAt at e0;rw[?a8 hh]at e0;exact ?gR rfl e0
         obtain⟨tu,b,h1q,h2q,h3q⟩:=rows fi w w r.1 G1 (?x g1 YL) O9m;refine⟨_,rfl,_,rfl,_,_,rfl,rfl,_,rfl,_,rfl,fi,tu,_,_,rfl,rfl,h1q,h2q,a,b,xs,k+1,Hu w (r.1 i),rfl,?x g1 hL5,O9m,?jX,by rw[Iy,hw],fun fl G2 nfl g2 hfl=>?_⟩;refine ?v6 ⟨fl,rfl,g2,?_⟩;rw[hfl,?a8 e0,hw];rfl
     refine Sg fun fl G2 g2 hfl=>?_;intro sq;have qL:=?e5;refine ?v5 (fun σ' H'=>Er fun(lp:Addr)=>Fc (σ'=[?m,?L,?a3,?a1,?a0,?b1,?aK,?bT,?cW,?dP,?eY,?R,?bW,?s4,rS fl,rS lp]) (?y8 G2) (H' lp=?y9 (tX xs k (?fC z l.2 L i))))
     . obtain⟨tu,b,h1q,h2q,h3q⟩:=rows tl z ?c8 _ G2 (?x qL A54) hi;refine⟨_,rfl,_,rfl,_,rfl,_,rfl,tl,tu,_,_,rfl,rfl,h1q,h2q,a,b,xs,k,Hu ?c8 (?fC z l.2 L i),rfl,?x qL hL5,O9m,?jX,?s1,fun lp G3 nlp g3 hlp=>?_⟩;exact ?v6 ⟨lp,rfl,g3,hlp⟩
     refine Sg fun lp G3 g3 hlp=>?_;intro sq;have VN:=qL.trans g3;have Af7:=(?o5 g2).trans g3;obtain⟨tu,b,h1q,h2q,h3q⟩:=rows tg z ?c8 _ G3 (?x VN A55) hi;refine⟨_,rfl,?r ⟨rfl,_,?vJ Af7 Ef⟩,_,rfl,_,rfl,_,rfl,_,rfl,_,rfl,_,rfl,tg,tu,_,_,rfl,rfl,h1q,h2q,a,b,xs,k,Hu ?c8 (?fC z l.1 G i),rfl,?x VN hL5,O9m,?jX,?s1,fun gp G4 ngp g4 hgp=>?_⟩;refine⟨_,rfl,?b8,fun t ht=>?_⟩;have g5:=?F (o:=?vT fl) ht;have et:upd G4 t (?vT fl) t=?c (?vT fl):=Ab;generalize upd G4 t (?vT fl)=G5 at g5 et;have g45:=g4.trans g5;have ZR:=Af7.trans g45;refine⟨D,_,_,rfl,rfl,?fT,?d4,?_⟩;have hP:Ho G5 (?d t) (HX xs k z k0 L G f l r i):=⟨t,lp,gp,fl,rfl,et,g45 _ _ hlp,g5 _ _ hgp,(?sH g45) _ _ hfl,(Ar (g3 _ _ hfl) ngp).symm⟩
     have nDt:∀c o,?tY->(∀vs,o≠?o vs)->c≠D:=fun c o e h z=>by
      rw[z,?fT]at e;cases e;exact h _ rfl
     have sx:∀c o,c≠D->?tY->upd G5 D (?o (?q0)) c=?bJ:=fun c o hc e=>by rw[Ak hc];exact e
     refine⟨?q0,_,_,_,_,rfl,(?cG ZR).turn nD,Ab,?_⟩;rw[ql3,qb0];exact B4.snoc (B4.put (?fT) (B4.same ZR rU)) (Ho.put hP (?fT))
   . rintro σ G' Di;ext uV;rw[Bu]at rU;exact ?v6 ⟨us,_,_,_,_,rfl,g,Ef,rU⟩
 refine Ac1 fun us zT ZS zS xG H7 s7 hD7 rU=>?_;intro sq;exact⟨_,rfl,kq D us H7 (s25.free nD) (s25.trans s7) hD7 rU⟩
noncomputable abbrev Nr:Stmt:=Ex (top 70) 4
theorem c7:?C ?bN ?bN (Av Nr):=Bg
theorem f8[?E](F:Ey K ?j4 ?oD Nr f fd)[?D][?mZ]:?vE ?bN ?tX:=by
 refine ?w0 c7;ext uE
 ext uH
 have hat:?t7:=by
  have:=Bk e1
  ext n1
 refine⟨_,(Ae (?zG (?z3 4))
  (Ai (Bd (?z1 (?zE (B7 (N':=?nH) (cap:=?g7) ?h ?aC (?vH B5 ?aV) (?v7 (?xS NY)) (?v7 (Kb (Be En (?xK ?k) Aj ?H))) (?v7 ?k))))))),?_⟩
 ext K
 ext uF
 let Be8:?aJ:=fun i ys τ G=>B6 (?gQ) (G D=?dL) (ys.length=(?qR fun p=>?t2).length) ?fY
 refine Kk (K:=K) (a:=E) (xs:=eu) Be8
  ?gE (?yT _) ?_ ?_
 . ext uD
   have y40:?jJ:=by
    have h3:=qg2 (fun p:Bz=>?t2) (?hF);rw[qc1]at h3;omega
   ext uS;ext iT
   . have gR:?i4:=?bC
     refine(?x1 Ef hD);rw[LQ,qg3,qi1,?jA,ql7,qb1,qb1,yl];rfl
   . have gR:¬?i4:=?bC
     refine ?sY;ext mY
 . rintro ys τ G ⟨g,Ef,yl,_⟩;refine⟨D,ys,rfl,?r (.of Ef),?_⟩;rw[el,qd2]at yl;rw[yl];exact kq ps G hps g
noncomputable abbrev L7:Stmt:=Ex (top 70) 5
theorem Xp:?C ?bN ?bN (Av L7):=Bg
theorem Yc[?E](F:Ey K ?jO ?rT L7 f fd)[?D][?mZ]:?vE ?bN ?qI:=by
 refine ?w0 Xp;ext uE
 ext uH
 have hat:?t7:=by
  have:=Bk e1
  ext n1
 refine⟨_,(Ae (?zG (?z3 4))
  (?z2 (B7 (N':=?nH) (cap:=?g7) ?h ?aC (?vH B5 ?aV) (?v7 (?xS NY)) (?v7 (Kb (Be Ln (?xK ?k) Aj ?H))) (?v7 (?xK ?k))))),?_⟩
 ext K
 ext uF
 let Be7:?aJ:=fun i ys τ G=>B6 (?gQ) (G D=?dL) (ys=((?qR fun p=>?aQ (p.1≠0)).map (·.1)).map ?N) ?fY
 refine Kk (K:=K) (a:=E) (xs:=eu) Be7
  ?gE (?yT _) ?_ ?_
 . ext uD
   have y40:?jJ:=by
    have h3:=qg2 (fun p:Bz=>?aQ (p.1≠0)) (?hF);rw[qc1]at h3;rw[yl,qa2,qa2];omega
   ext uS;ext iT
   . have gR:¬?i4:=?bC
     refine⟨_,rfl,t,_,_,_,rfl,rfl,.of et,rfl,Ef,?d4,g.turn hD,Ab,?_,_,rfl⟩;rw[LQ,qg3,qi1,?jA,ql7,qb0,qb0,yl];rfl
   . have gR:?i4:=?bC
     refine ?sY;ext mY
 . rintro ys τ G ⟨g,Ef,yl,_⟩;rw[el,qd2]at yl;refine kq ps D G hps hD g ?_;rw[Ef,yl];rfl
noncomputable abbrev Rk:Stmt:=top 12
theorem DP:?C ?hZ ?hZ (Av Rk):=Bg
theorem dZ[?E](F:Ey K ?hI ?hI Rk f fd)[?D](Y2:Has P w K mg ?e ?hE ?iN 4 (Xc K)):?x9 ?hZ Vk:=by
 refine ?w0 DP;obtain⟨a,b,xs,k,ms,rfl,hL,hb,hm,kq⟩:=h
 refine⟨_,(Ae (?zK (Ii (G6 (Az eY ?jD Cc (?v8 ?p (Iw (v:=.ty "dict") rfl T.n_dict Oe rfl))))))
  (?z2 (?zS (nK (B7 (N':=[?eL,?f5,?G,"k"]) (cap:=[none,none,?g4,?c 1]) ?h ?aC (Pe ?p) (?v7 (?xJ (As (i:=0) UX) (As (i:=1) UX))) ?aU (?v7 (?xL Y2 (Aa ?p (Aa ?t ?bS))))))))),?_⟩
 ext K
 refine⟨_,rfl,b,_,rfl,?r hb,_,rfl,?_⟩;ext j0;refine ?O ⟨b,?aP,hb,?pR⟩;refine⟨_,rfl,b,o,?aP,rfl,Ab,?bE⟩;obtain⟨TM,KY⟩:=EO hD
 let Be6:?aJ:=fun i zs τ H1=>Dn (zs=((ms.take i).map ?rJ).map V.bl) (H1 b=?c (?w1 o)) (H1 D=?c (?o zs)) (Q1 b H H1) (Jj fun o1 o2=>τ=[o1,o2,?m,?L])
 refine Zi (d:=b) (o:=o) (kvs:=?aP) Be6
  ⟨rfl,?_,Ab,?_,?j,?j,rfl⟩ (fun i zs τ H1 _ hz=>by obtain⟨_,e,_⟩:=hz;exact e) ?_ ?_
 . rw[?f3];exact Ab
 . intro c q n1 e2;rw[Ak (Ar e2 TM),Ak n1];exact e2
 . rintro i kk x zs τ H1 p hx Di hp;revert τ;refine UZ ?_;intro hz1 hb1 Eg hk1 o1 o2 Fd;subst hz1;obtain⟨q,hq,rfl,rfl⟩:=Zp hx;have hlt:?p9:=?oI;have sp:?x0 H1 H1:=?i3;ext mW;refine⟨_,rfl,_,rfl,_,rfl,_,rfl,a,xs,k,q.1,q.2,rfl,?x sp (Rep.x hk1 hb hL),?_⟩;refine⟨sp _ _ Eg,?c5 (by simp;omega),?_,?_,Ab,fun c r n1 e2=>?_,_,_,rfl⟩
   . rw[qr8,hq,qb0,qb0];rfl
   . rw[?f3];exact sp _ _ hb1
   . rw[Ak (fun z=>by rw[z,TM]at e2;cases e2)];exact sp _ _ (hk1 c r n1 e2)
 . rintro zs τ H1 ⟨rfl,hb1,Eg,hk1,_⟩;rw[R7,qd2]at Eg;refine⟨hb1,D,ms.map ?rJ,rfl,.of (by rw[Ak KY];exact Eg),?_⟩;rw[List.all_map];refine kq _ fun c q e2=>?_;by_cases z:c=b
   . subst z;rw[hb]at e2;cases e2;exact Ab
   . rw[Ak z];exact hk1 c q z e2
noncomputable abbrev Kv:Stmt:=top 31
theorem Jl:?C [?dA,?eL,"piece"] [?dA] (Av Kv):=Bg
theorem Wc[?E](F:Ey K ?i7 ?i7 Kv f fd)[?D](oX:Has P w K mg ?e ?iS ?jV 4 (iQ K)):?x9 [?dA] Xb:=by
 refine ?w0 Jl;obtain⟨v,xs,rfl,hL,hs,hx,k⟩:=h;obtain⟨a,us,rfl,hq,r⟩:=id hL;have hl:?o0:=?rG
 refine⟨_,(Ae (Ci qb9 rfl (Sx (K:=K) ?h ?sJ ?aZ) (?xJ (?z6 1 Jl.nd) (?z6 2 Jl.nd)) (Ai (B8 (?vP oX (Aa (?z8 Ev ?n) ?b2)) (?z2 ?n) Bo)))
  (?z2 X1)),?_⟩
 ext K
 refine⟨_,rfl,a,rfl,⟨us,hq⟩,?_⟩
 let Be5:?dC:=fun i σ G=>Jj fun o1 o2=>σ=[?m,o1,o2]/\?gQ
 refine Y6 (K:=K) (a:=a) (xs:=us) Be5
  ⟨?j,?j,rfl,?dH H⟩ (fun i σ G _ hz=>by obtain⟨_,_,_,s1⟩:=hz;exact s1.seq hq) ?_ ?_
 . rintro i v σ G p hv Di hp
   and_intros
   revert σ;refine ON ?_;intro o1 o2 s1 Fd;have hi:i<xs.length:=by have:=?lE;omega
   obtain⟨dv,jG,rv⟩:=r.getV hv
   have edv:dv=?t4:=by
    rw[qa8,?dZ]at jG;simpa using jG.symm
   subst edv;have sp:?i G (?qO):=?i3;ext mW;generalize ?qO=G1 at sp;have s2:=?b5 sp;refine⟨_,rfl,_,rfl,_,rfl,a,us,rfl,s2.seq hq,?q4⟩;have s3:?i G1 (?s7):=?F hc;have ec:upd G1 c (?wQ ?V) c=?c (?wQ ?V):=Ab;generalize ?s7=G2 at s3 ec;have s4:=?m2
   have A85:LT K G2 (?d c) (?rE):=by
    refine⟨c,_,rfl,.of ec,?_⟩;rw[Jf,qo8];exact(?aT s4 r).take i
   refine⟨_,rfl,c,v,?t4,?rE,rfl,A85,?x s4 rv,fun G3 s5=>?f7⟩;rw[LP (hs i xs[i] (?dZ))];refine On ?a7 ?_;exact⟨_,_,rfl,?j5⟩
 . ext e2;refine ON ?_;intro o1 o2 s1 Fd;exact k G s1
noncomputable abbrev L4:Stmt:=Ex ?h3 2
theorem Gw:?C [?S,?mA,"i","at","head",?h9] ?l8 (Av L4):=Bg
theorem X9[?E](F:Ey K ?j1 ?pO L4 f fd)[?D][?uM][?mS](Jx:?yP Ad):Bx P w K mg ?e Eu 5 f fd ?l8 (?vA dI):=by
 refine ?w0 Gw;obtain⟨H0,p,q,M,n,W,t,spot,i,s,Nx,rfl,x,hs,hi,ok,k⟩:=h;ext iX;obtain⟨r,b,lx,f1,f2⟩:=x.ex;ext cE;ext iW;obtain⟨h1,h2,h3⟩:=ok.hd ?u (qa1 _) hs;obtain⟨o1,o2⟩:=ok.oth;ext n5;obtain⟨cs,_,ecs,_,hcs⟩:=?vH ?kN ?eA
 refine⟨_,(Ae (?wC Gw.nd ?aV)
  (Ae (?wT Gw.nd (?y7 ?aV))
  (Ae (?wB Gw.nd (?y7 ?cR))
  (Ae (B8 (?vW En (Bf E9 ?b7 ?a4)) (?xM Cw (?z5 (Aa ?p (?v8 ?n (My Hx (Bf K0 ?b7 ?a4)))))) (Ae (Bw (Dp ?k ?v Jx hr (Aa ?n (Aa ?p (Aa ?a4 ?dS)))))
  (?xM Cm (?v8 ?n (?zB Cl ?n)))))
  (?xM Cm (?v8 ?p (?zB Cl ?n))))))),?_⟩
 ext K
 refine⟨_,rfl,p,Ad,dx,fs,_,rfl,hp,?v,?c0,l3,_,rfl,q,_,_,_,rfl,rfl,?r0,?x6 hs,?_⟩;refine⟨_,rfl,p,Ad,dx,fs,_,rfl,hp,?v,?aG,l1,_,rfl,r,_,_,_,rfl,rfl,?bK,Bk ecs,_,rfl,cs,_,_,_,rfl,rfl,hcs,?g9,?_⟩;refine⟨_,rfl,p,Ad,dx,fs,_,rfl,hp,?v,?aG,l1,_,rfl,r,_,_,_,rfl,rfl,?bK,?iO,_,rfl,ci,_,_,_,rfl,rfl,LM,?g9,?_⟩;refine Aq (fun σ' H'=>?lO/\?aX) ?_ fun key=>?fV;ext aL;refine qw7 (t:=?m4) (fun σ' H'=>?lO/\∃s1,?vO H' s1/\AZ n W t i ?bV i s1/\Hds W t ?bV i s1.1/\Nx (?m3 t i ?bV s1 (i-?bV))) ?g ?_
 . refine(?wH h2);ext n6
   . have h5:?d5%?d8=0:=?h6
     have h6:?d5=?kS*?d8:=(Int.ediv_mul_cancel (?tJ h5)).symm;obtain⟨UU,uU⟩:=ok.add _ h6;refine⟨_,rfl,p,dx,fs,rfl,hp,?dR,_,rfl,_,rfl,_,rfl,_,rfl,_,_,rfl,rfl,?p8,_,rfl,?b8,?_⟩;rw[?s2];have hk:(?kS).natAbs<L9:=qc0 (qh4 _ _) o2;generalize ?kS=kk at h6 UU uU hk;intro T1 hT1;have s1:?i H (?l9):=?eP;have hT:?w2 ?l9 (?mE):=?i5
     generalize ?l9=G1 at s1 hT;refine⟨p,?dI,Ad,r,b,_,n,W,_,_,?mE,rfl,?iL,?jE,hT,⟨hi,O9m,O9m,fun c hc=>GJ (by rw[qc7];exact hk) (ok.bo.1 _ _ O9m hc)⟩,⟨O9m,hi,O9m,fun c hc=>GJ (by rw[qc7,qc7];exact hk) (ok.bo.2 _ _ hi hc)⟩,O9m,O9m,?hL⟩;refine ?v6 ⟨rfl,_,x.redo s1 sx n1 n2 z,UU,?nR,uU⟩;have e:(tnS (?mE) s).1 j=s.1 j:=Lat.addR_row_ne (?w7 i);rw[e];exact ?t6
   . refine Aq (fun σ' H'=>?lO/\∃g a c,?pF (?d8) (?d5) g a c/\?vO H' (?jW)) ?_ ?sZ;rotate_left
     . refine⟨_,rfl,p,dx,fs,rfl,hp,?dR,_,rfl,_,rfl,_,rfl,_,rfl,?_⟩;refine⟨p,Ad,r,b,_,n,W,?u,i,_,_,s,_,rfl,?iL,lx,O9m,hi,O9m,O9m,O9m,h2,o1,h3,o2,ok.bo,fun L g a c G fr kp _ sh z=>?_⟩;exact gP _ _ ⟨rfl,g,a,c,sh,x.redo2 lx f1 f2 fr kp z⟩
     refine Kl fun G cX=>?_;intro sq;obtain⟨g,a,c,sh,y⟩:=cX;obtain⟨UU,uU,ok3⟩:=ok.ble g a c sh
     have hd1:Hds W t ?bV i (?jW).1:=fun j hj1 hj2=>by
      have e:(?jW).1 j=s.1 j:=Lat.blend_row_ne (?w7 spot) (?w7 i) _ _ _ _;rw[e];exact ?t6
     ext uG;refine⟨H0,p,q,M,n,W,t,i,_,?u,?dW,rfl,y,O9m,O9m,?r O9m,hd1,UU,?u5⟩;refine ?v6 ⟨rfl,_,z,uU,?nR,ok3⟩;rw[Xl _ _ _ _ _ _ (?w7 spot)];exact hd1 j hj1 hj2
 refine Kl fun G cX=>?_;intro sq;obtain⟨s1,y,UU,hd1,uU⟩:=cX;ext uG;exact⟨H0,p,q,M,n,W,t,i,s1,i,?dW,rfl,y,hi,O9m,?O (qa1 _),hd1,UU,fun G' z=>k _ _ z uU⟩
noncomputable abbrev Jn:Stmt:=Ex ?h3 3
theorem Mv:?xE ?eU Jn:=Bg
theorem Uj[?E](F:Ey K ?j8 ?oB Jn f fd)[?D][?uM]:?xP 5 Xf:=by
 refine ?w0 Mv;obtain⟨H0,p,q,M,n,W,t,i,s,rfl,x,ok,k⟩:=h;ext iX;obtain⟨r,b,lx,_⟩:=x.ex;ext cE;refine⟨_,(Ai (Ci qb9 rfl (RQ ?h ?aF (Aa (?zB G7 ?eD) (?v8 (My Hx Aj) (My Hx Aj)))) (?z6 1 Mv.nd) (?xM Cm (?v8 ?n (?zB Cl ?n))))),?_⟩;refine⟨_,rfl,p,Ad,dx,fs,_,rfl,hp,?v,?c0,l3,q,_,rfl,?nF,_,_,rfl,rfl,_,rfl,_,rfl,i+1,?pJ,O9m,?_⟩;clear lx hp l1 l2 l3 l4 l5
 let Be4:?dC:=fun d σ G=>Er fun o1=>σ=?qC/\SX Ad H0 G p q M n W t ?eQ (?qQ)
 refine OY (hi:=((i+1:Nat):Int)-1) (n:=i+1) Be4 ?pN ?_ ?_
 . rintro d σ G hd Di
   and_intros
   revert σ;ext nA;ext n9;ext cE;rw[show((i+1:Nat):Int)-1-?qA=((i-d:Nat):Int) by omega];obtain⟨UU,uU⟩:=?p2;refine⟨_,rfl,p,dx,fs,rfl,hp,?dR,_,rfl,_,rfl,_,_,rfl,rfl,?_⟩;refine⟨H0,p,q,M,n,W,t,i+1,?qQ,i-d,i-d+1,rfl,y,O9m,O9m,?r O9m,UU,uU,?u5⟩;rw[show i+1-(i-d+1)=d by omega]at z;exact⟨_,rfl,z⟩
 . ext e2;ext nA;exact k _ y
noncomputable abbrev F4:Stmt:=Ex ?gT 3
theorem Ct:?xE [?S,?kD,"gap","i","j"] F4:=Bg
theorem Ph[?E](F:Ey K ?jQ ?rQ F4 f fd)[?D](Ke:Kg P w K mg ?e Ah ?k5 ?lV 4 (?vA aB)):?xP 5 AB:=by
 refine ?w0 Ct;obtain⟨H0,p,L,R,nm,n,w,m,l,r,f,Sv,rfl,x,mn,mw,v0,vs,k⟩:=h;obtain⟨IB,ZF,nF⟩:=T.x_GAPS;obtain⟨qJ,QI⟩:=x.sm;ext fE
 refine⟨_,(Ae (?xD ?eX ?eD)
  (Ae (Ci qb9 rfl (?vH Ta (Kc (v:=?d IB) ?h ZF rfl)) (?x7 2) (Ai (?zP (?zE (Bf G7 ?n ?p)) (Ai (Bw (Dp ?k ?s Ke hr (?v8 ?t (Bf Cl ?t ?p))))))))
  (Ai (?zP ?W (Ai (Ci qb9 rfl (aF ?h ?aF (Aa (?zB Cl ?t) ?W)) (?x7 4) (Ai (Bw (Dp ?k ?s Ke hr (Aa ?t ?e7)))))))))),?_⟩
 ext K
 refine ?v5 (fun σ' H'=>σ'=[?l,?dU,none,none,none]/\?aX)
 . exact⟨_,rfl,p,Ah,GY,GU,_,rfl,hpa,?s,?cJ,VF,nm,_,rfl,?r (?mJ),?v6 ⟨by rw[qa2,Iy];rfl,rfl⟩⟩
 ext aL;refine ?v5 (fun σ' H'=>Jj fun ?rA=>?y4 o3 none/\∃(d:Nat) (f:?dY) (l r:?bR),d<=5*m/\?i6/\?xV H' l)
 . refine⟨IB,rfl,⟨_,nF H⟩,?_⟩
   let Be3:?dC:=fun g σ' G=>Jj fun ?rA=>?y4 o3 none/\∃(d:Nat) (f:?dY) (l r:?bR),d<=g*m/\?sM
   refine tP (K:=K) (a:=IB) (xs:=(([32,16,8,4,2]:?l4).map ?N)) Be3 ⟨?j,?j,rfl,0,f,l,r,O9m,v0,x⟩ (fun g σ G _ _=>nF G) ?_ ?_
   . rintro g y σ G hy Di
     and_intros
     obtain⟨o2,o3,rfl,d,f,l,r,hd,hv,z⟩:=Di
     have hg:∃gp:Nat,y=?f ?kF/\1<=gp/\gp<=32/\g<5:=by
      match g,hy with
      | 0,hy=>cases hy;exact(?vV 32 ?q)
      | 1,hy=>cases hy;exact(?vV 16 ?q)
      | 2,hy=>cases hy;exact(?vV 8 ?q)
      | 3,hy=>cases hy;exact(?vV 4 ?q)
      | 4,hy=>cases hy;exact(?vV 2 ?q)
      | g+5,hy=>simp at hy
     obtain⟨gp,rfl,g1,g2,g5⟩:=hg;refine⟨_,rfl,_,rfl,_,_,rfl,rfl,_,rfl,O9m,O9m,?_⟩;refine Co (lo:=0) (n:=(?gG-?kF).toNat) (fun i σ' G=>Er fun(o3:?gS)=>σ'=[?l,?dU,?xO ?kF,o3,none]/\∃(d:Nat) (f:?dY) (l r:?bR),d<=g*m+i/\?sM) ⟨o3,rfl,d,f,l,r,hd,hv,z⟩ ?_ ?_
     . rintro i σ G hi ⟨o3,rfl,d,f,l,r,hd,hv,z⟩;rw[qp7];ext uO
       have hm5:g*m+m<=5*m:=by
        have:=qb5 m (show g+1<=5 from g5);rw[qf8,qf6]at this;exact this
       refine⟨_,rfl,p,dxc,fsc,rfl,hpc,?oZ,_,rfl,_,rfl,_,rfl,_,_,rfl,rfl,?_⟩;obtain⟨o1,o2',o3'⟩:=?x4 (i+gp);refine⟨H0,p,L,R,nm,n,w,m,i,i+gp,l,r,f,rfl,z,O9m,O9m,mn,mw,o1,?pS,?o1⟩
       . exact⟨_,rfl,d+1,f,l,r,O9m,o2' jG,z⟩
       . exact⟨_,rfl,d+1,_,_,_,O9m,?nP,z'⟩
     . rintro σ G ⟨o3,rfl,d,f,l,r,hd,hv,z⟩;refine⟨_,_,rfl,d,f,l,r,?_,hv,z⟩;rw[qf8,qf6];omega
   . rintro σ G ⟨o2,o3,rfl,d,f,l,r,hd,hv,z⟩;exact ?v6 ⟨o2,o3,rfl,d,f,l,r,hd,hv,z⟩
 refine uJ fun o2 o3 G cX=>?_;intro sq;obtain⟨d,f,l,r,hd,hv,z⟩:=cX;refine⟨_,rfl,_,rfl,O9m,O9m,?_⟩;refine Co (lo:=0) (n:=(?gG).toNat) (fun i σ' G=>Jj fun(o3 o4:?gS)=>?y4 o3 o4/\∃(d:Nat) (f:?dY) (l r:?bR),d<=5*m+i*m/\?i6/\?oE m i f/\?k0) ⟨o3,?j,rfl,d,f,l,r,O9m,hv,fun a b ha=>O9m,z⟩ ?_ ?_
 . rintro i σ G hi ⟨o3,o4,rfl,d,f,l,r,hd,hv,hc,z⟩;rw[qe4]at hi;rw[qp7]
   have him:i*m+m<=m*m:=by
    have:=qb5 m (show i+1<=m from hi);rw[qf8,qf6]at this;exact this
   refine⟨_,rfl,_,_,rfl,rfl,_,rfl,_,_,rfl,⟨O9m,O9m,O9m,O9m⟩,?_⟩;refine Co (lo:=?V+1) (n:=?qY) (fun j σ' G=>Er fun(o4:?gS)=>?y4 ?bW o4/\∃(d:Nat) (f:?dY) (l r:?bR),d<=5*m+i*m+j/\?i6/\Lat.ChainAt m i (?iH) f/\?k0) ⟨o4,rfl,d,f,l,r,O9m,hv,hc.at,z⟩ ?_ ?_
   . rintro j σ G hj Di
     and_intros
     obtain⟨o4,rfl,d,f,l,r,hd,hv,hc,z⟩:=Di;rw[show ?V+1+(j:Int)=((?iH:Nat):Int) by omega];ext uO;refine⟨_,rfl,p,dxc,fsc,rfl,hpc,?oZ,_,rfl,_,rfl,?_⟩;obtain⟨o1,o2',o3'⟩:=?x4 (?iH);refine⟨H0,p,L,R,nm,n,w,m,i,?iH,l,r,f,rfl,z,O9m,O9m,mn,mw,o1,?pS,?o1⟩
     . exact⟨_,rfl,d+1,f,l,r,O9m,o2' jG,hc.skip jG,z⟩
     . exact⟨_,rfl,d+1,_,_,_,O9m,?nP,hc.step O9m O9m sh.pair,z'⟩
   . rintro σ G ⟨o4,rfl,d,f,l,r,hd,hv,hc,z⟩;rw[show i+1+?qY=m by omega]at hc;refine⟨_,_,rfl,d,f,l,r,?_,hv,hc.next,z⟩;rw[qf8,qf6];omega
 . rintro σ G ⟨o3,o4,rfl,d,f,l,r,hd,hv,hc,z⟩;rw[qe4]at hc;exact k d f l r _ hv hc z
noncomputable abbrev Jq:Stmt:=top 84
theorem Ib:?C [?k4,?bQ,?tG,?hC,"_law_count","_law_twists"] ?lL (Av Jq):=Bg
theorem Um[?E](F:Ey K ?h5 ?h5 Jq f fd)[?D](N7:Kg P w K mg ?e Aw ?j4 ?bN 4 ?tX)(Mf:Kg P w K mg ?e Aw ?jO ?bN 4 ?qI)(Y3:Has P w K mg ?e ?q5 ["_law_found"] 1 (Xe K)):Bx P w K mg ?e Eu 5 f fd ?lL ?pC:=by
 refine ?w0 Ib;obtain⟨p,v,k,many,B,xs,ls,ns,ps,n1,n2,rfl,bk,sB,hk0,GQ,hv,hps,h1,h2,hc,ht,hn,kq⟩:=h;have aM:=hr.u8;obtain⟨dx,P,Lv,Lf,lu,wu,hp,_⟩:=bk.ob
 refine⟨_,(Ae (?wT Ib.nd (Dp ?k ?c4 N7 hr ?W))
  (Ae (?wB Ib.nd (Dp ?k ?c4 Mf hr ?W))
  (Ae (?zK (PW.pt (NF (?vP Y3 ?e7) (gB (?y6 ?b7 (Iw (v:=.ty ?kK) rfl ?d3 Db rfl))))))
  (Ae (?zK (Be Ln ?a4 (Bf G7 (Bf G7 ?p (?vC (?yV ?t))) (?vC (Bc ?U ?t (?zB Cl ?n) ?w))) ?H))
  (?z2 (Lm (?vH JC aM) ?b7 (B7 (N':=["_law_number"]) (cap:=?g7) ?h ?aC (?vH B5 (?zN ?t (Bf Cl ?n Aj))) (?v7 (?xS xK)) (?v7 (Kb (Be DU ?k Aj ?H))) (?v7 ?k)) ?H)))))),?_⟩
 ext K
 refine ?v5 (?xQ [?l,?L,?gV,?c v,?fX,none] ?eC)
 . refine⟨_,rfl,p,dx,_,rfl,?q6,rfl,_,rfl,p,k,B,xs,ls,rfl,bk,sB,hk0,GQ,fun ps' H1 oS s1=>?_⟩;rw[hps]at oS;cases oS;ext n8
 ext iU;have sB1:=?s6 s1;refine ?v5 (fun σ' H'=>Er fun ?hJ=>Fc (?yX v) ?g3 (?xR D ((qI ps).map ?N)))
 . refine⟨_,rfl,p,dx,_,rfl,sB1 _ _ hp,rfl,_,rfl,p,k,B,xs,ls,rfl,bk,sB1,hk0,GQ,fun ps' D H2 oS nD s2 hD=>?_⟩;rw[hps]at oS;cases oS;exact ?v6 ⟨D,rfl,s2,hD⟩
 refine Sg fun D H2 s2 hD=>?_;intro sq;have s12:=?mK;have rD:Rep K H2 (?hW) (?k9):=⟨D,_,rfl,.of hD,?kJ⟩
 have hv2:=?x s12 hv;refine ?v5 (fun σ' H'=>?yX v/\H2=H')
 . refine⟨_,rfl,?f _,?f _,rfl,rfl,_,rfl,?_⟩;ext mU;refine⟨_,rfl,?hW,?kK,_,rfl,?O (?O (?O (?O (?bD)))),rD,_,rfl,?_⟩;ext mU;ext iV
 ext aL;obtain⟨nb,nu,rfl,hnq,hnr⟩:=id hv2
 have get:∀{i:Nat}{n:?l4},ns[i]?=?c n->∃b bu,nu[i]?=?c (?d b)/\SqL K H2 b bu/\bu=?k7:=fun {i n} hi=>by
  obtain⟨w,hw,rw_⟩:=hnr.get (i:=i) (d:=?o (D9 n)) (by rw[qa8,hi];rfl);obtain⟨b,bu,rfl,hb,hr⟩:=rw_;exact⟨b,bu,hw,hb,Ei.mp hr⟩
 obtain⟨b1,_,e1,q1,rfl⟩:=get h1;obtain⟨b2,_,e2,q2,rfl⟩:=get h2
 have a1:V3 nu k=?c (?d b1):=by
  have:=Bk e1
  ext n1
 have a2:V3 nu (k+1)=?c (?d b2):=by
  have:=Bk e2
  rwa [show((k.toNat+1:Nat):Int)=k+1 by omega]at this
 refine ?v5 (fun σ' H'=>σ'=[?l,?L,?gV,?bG,?fX,?R]/\H2=H')
 . refine⟨_,rfl,_,rfl,_,rfl,_,rfl,nb,nu,_,_,rfl,rfl,hnq,a1,b1,_,rfl,?r q1,_,_,rfl,rfl,_,rfl,_,rfl,_,_,rfl,rfl,nb,nu,_,_,rfl,rfl,hnq,a2,b2,_,rfl,?r q2,_,_,rfl,rfl,rfl,_,rfl,?_⟩;refine ?rF
   . rw[qa2,qa2,hc];simp
   . ext iV
 ext aL;refine⟨_,rfl,_,rfl,_,rfl,_,_,rfl,rfl,nb,nu,_,_,rfl,rfl,hnq,a2,b2,rfl,⟨_,q2⟩,?gD⟩
 let Be2:?aJ:=fun i ys τ G=>B6 (?i H2 G) (G E=?dL) (ys=((n2.take i).filter fun n=>?rX).map ?N) ?fY
 refine Kk (K:=K) (a:=b2) (xs:=n2.map ?N) Be2
  ⟨?kO,Ab,rfl,?j,rfl⟩ (fun i ys τ G _ hz=>by obtain⟨g,_⟩:=hz;exact g.seq q2) ?_ ?_
 . rintro i w ys τ G hw Di;revert τ;refine ?fW;intro g hEG yl o Fd;rw[qa8]at hw;obtain⟨n,hn',rfl⟩:=qj0.mp hw;have LQ:n2.take ?eQ=n2.take i++[n]:=by rw[qf5,hn'];rfl
   have y40:?jJ:=by
    have h3:=qg2 (fun n:Int=>?rX) (n2.take i);rw[qc1]at h3;rw[yl,qa2];omega
   refine ?pW;ext iT
   . have gR:1<n:=?bC
     refine(?x1 hEG hE);rw[LQ,qg3,qi1,?jA,ql7,qb0,yl];rfl
   . have gR:¬1<n:=?bC
     refine⟨g,hEG,?_,_,rfl⟩;ext mY
 . rintro ys τ G ⟨g,hEG,yl,_⟩;rw[qa2,qd2,←ht]at yl;subst yl;refine⟨?k9,?k9,?x g rD,⟨E,_,rfl,.of hEG,?kJ⟩,?_,?_⟩
   . show deps (D9 _)+1<=8;rw[Kj];decide
   . rw[Tg];exact kq G (s12.trans g)
noncomputable abbrev Es:Stmt:=top 14
theorem Lc:?C ?gI ?gI (Av Es):=Bg
theorem Ld[?E](F:Ey K ?fZ ?fZ Es f fd)[?D](U0:Has P w K mg ?e ?hI ?hZ 5 (Vk K)):?x8 ?gI Fy:=by
 refine ?w0 Lc;obtain⟨a,b,xs,n,ms,rfl,hL,hb,hm,hn,kq⟩:=h;refine(?zJ (Az (?vH Yr ?h) T.n_any aV (?zE (B7 (N':=["k",?G,?bI]) (cap:=[none,?g4,?c 1]) ?h ?aC (?w4 ?b2) (?v7 (?xS Ah9)) ?aU (?v7 (?xL U0 (Aa ?n (Aa ?k ?b2))))))));refine⟨_,rfl,_,rfl,O9m,O9m,?bE⟩
 let Be1:?aJ:=fun i zs τ H1=>B6 (?i H H1) (H1 D=?c (?o zs)) (zs=(?p4 ?mQ).map V.bl) (?zC [o,?m,rS b])
 refine Fp Be1
  ?gE ?_ ?_
 . rintro i zs τ H1 hi Di;revert τ;refine ?fW;intro s1 Eg hzs o Fd;have hi2:i<n:=O9m
   refine⟨_,rfl,_,rfl,_,rfl,a,b,xs,_,ms,rfl,?dK,?sT,hm,fun H2 s2=>?_⟩;refine⟨?yS Eg,?c5 (by rw[hzs,qa2,qa2,qj2];omega),(?mK).turn hD,Ab,?_,_,rfl⟩;rw[ql3,qb0,qb0,hzs,show(?cO+?V)=?V by omega];rfl
 . rintro zs τ H1 ⟨s1,Eg,hzs,_⟩;rw[qe4]at hzs;refine⟨D,(?lD n).map ?mQ,rfl,.of (by rw[Eg,hzs]),?_⟩;rw[List.any_map];exact kq _ s1
noncomputable abbrev Rj:Stmt:=top 29
theorem dP:?C ?dX ?dX (Av Rj):=Bg
theorem DY[?E](F:Ey K ?gC ?gC Rj f fd)[?D](Jy:Has P w K mg ?e ?u6 ?dX 1 (IQ K))(Mg:Has P w K mg ?e ?i7 [?dA] 5 (Xb K)):?x8 ?dX Sk:=by
 refine ?w0 dP;obtain⟨v,xs,rfl,hL,hs,J0,k⟩:=h;refine(?zJ (Mb (?xL Jy ?aZ) (Nv (Lm XC (?xL Mg ?aZ) X1 ?H))));refine⟨_,rfl,v,xs,rfl,hL,J0,_,rfl,?_⟩;refine BY ?h ?_;exact⟨_,rfl,v,xs,rfl,hL,hs,J0,fun H1 s1=>⟨rfl,?hY⟩⟩
noncomputable abbrev Jo:Stmt:=Ex ?h3 1
theorem Ia:?C [?S,"i",?mA] ?eU (Av Jo):=Bg
theorem Uk[?E](F:Ey K ?mI ?tI Jo f fd)[?D](M5:Has P w K mg ?e ?oU [?g1] 1 (So K))[?mS](Md:Kg P w K mg ?e Ad ?j1 ?l8 5 (?vA dI)):Bx P w K mg ?e Eu 6 f fd ?eU (?vA Xg):=by
 refine ?w0 Ia;obtain⟨H0,p,q,M,n,W,t,i,s0,I,rfl,x,hi,P,ht,k⟩:=h;ext iX
 refine⟨_,(Ae (?vM Ia.nd Aj)
  (Ae (Su qb9 (PW.pt (GB (Be Sz ?p ?n ?H) (BJ (?wR iY)))) (Ae (B8 (?wR En) (?xM Md (Aa ?p ?W)) Bo)
  (Ai (?vM Ia.nd (?zB Cl ?p)))))
  (Ae (?xN G9)
  (Ae (?xN G9)
  (Ae (Bw (G9 (K:=K) qd9 qr6 qr5 Uo ?Q (?v8 ?p (?xL M5 (?zE ?cR)))))
  (?zT (?vW Sz (?zN ?cR ?cR)) ?b2)))))),?_⟩
 ext K
 refine ?vK [?l,?dD,?xO ?tV];ext aL;refine ?v5 (fun σ' H'=>Og fun spot st s=>Hq ?gO (SX Ad H0 H' p q M n W t i s) ?u7 ?nU (Hn W (s.1 i) st) ((spot<i->st<?e1)))
 . refine⟨fun m σ' G=>Jj fun spot s=>Dn ?gO (?vO G s) ?u7 ?nU (m=i-spot),⟨_,0,s0,rfl,x,P.start,?cS,rfl⟩,?_⟩;rintro m σ G Di;refine sW ?_;intro _;obtain⟨spot,s,rfl,y,hI,hs,rfl⟩:=Di;obtain⟨st,hb⟩:=Hn.ex (P.ok ?u s hs hI);ext n9;ext cE;ext iW;ext n5;refine⟨_,rfl,_,rfl,_,_,rfl,rfl,_,rfl,?_⟩;ext fH
   . have hlt:spot<i:=by have:?gN<?V:=?cC
                         omega
     refine⟨_,rfl,p,Ad,dx,fs,_,rfl,hp,?v,?c0,l3,_,rfl,q,_,_,_,rfl,rfl,?lG,?x6 hlt,_,rfl,p,Ad,dx,fs,_,rfl,hp,?v,?aG,l1,_,rfl,r,_,_,_,rfl,rfl,?bK,?iO,ci,W,st,_,rfl,LM,hb,O9m,_,_,rfl,rfl,_,rfl,?_⟩;ext iT
     . have hle:t spot<=st:=by have:?rY:=?bC
                               omega
       refine⟨fun σ' G'=>Jj fun iP s'=>B6 (σ'=[?l,?dD,?c (?f ((iP:Nat):Int))]) (?t5) (I iP s') (iP=?dW),?_,?_⟩
       . rintro σ' G' ⟨iP,s',rfl,z1,z2,rfl⟩;exact⟨i-?bV,O9m,?dW,s',rfl,z1,z2,hlt,rfl⟩
       refine Aq (t:=?m4) (fun σ' G'=>?jM/\∃s',?t5/\I ?bV s') ?_ ?sZ;rotate_left
       . refine⟨_,rfl,p,Ad,dx,fs,_,rfl,hp,?v,?c0,l3,_,rfl,q,_,_,_,rfl,rfl,?lG,?x6 hlt,_,rfl,p,Ad,dx,fs,_,rfl,hp,?v,?aG,l1,_,rfl,r,_,_,_,rfl,rfl,?bK,?iO,ci,W,st,_,rfl,LM,hb,O9m,rfl,_,rfl,?_⟩;refine ?bB (fun h3=>?_) (fun h3=>?_)
         . have he:?e1=st:=by
            have:?fM=?lC:=?qZ
            omega
           refine⟨_,rfl,p,dx,fs,rfl,hp,?dR,_,rfl,_,rfl,?_⟩;refine⟨H0,p,q,M,n,W,t,?u,i,s,I ?bV,rfl,y,hlt,hi,P.meet ?u s hlt hI (?tT) (by rw[he];exact hb.2.1),fun G' s' z1 z2=>?_⟩;exact gP _ _ ⟨rfl,s',z1,z2⟩
         . have he:¬?e1=st:=by
            have:¬?fM=?lC:=?qZ
            omega
           exact gP _ _ ⟨rfl,s,y,P.skip ?u s hlt hI ?tT⟩
       rintro _ G' ⟨rfl,s',z1,z2⟩;exact⟨_,rfl,_,_,rfl,rfl,?dW,s',rfl,z1,z2,rfl⟩
     . have hle:¬t spot<=st:=by have:¬?rY:=?bC
                                omega
       exact ?v6 ⟨?u,st,s,rfl,y,hI,hs,hb,fun _=>O9m⟩
   . have hlt:¬spot<i:=by have:¬?gN<?V:=?cC
                          omega
     exact ?v6 ⟨?u,st,s,rfl,y,hI,hs,hb,fun z=>?gR z hlt⟩
 refine IF fun spot st s G y hI hs hb hex=>?_;intro sq;obtain⟨r,b,lx,f1,f2⟩:=y.ex;ext cE;ext iW;obtain⟨bs,xb,nb⟩:=lx.bk;obtain⟨pr,pb⟩:=lx.refs;have rb:=lx.ne;obtain⟨ci,rci,MM,mci,LM⟩:=?kZ;obtain⟨di,rdi,edi,mdi,hdi⟩:=?vH xb.row hi
 have six:∀l:Nat,i<l->seqIndex? ?rV l=?c i:=fun l hl=>by
  unfold seqIndex?;simp only[show ¬?rV<0 by omega,if_false,qe4]
  first | (rw[?hO]) | (rw[?c2 (by omega)]) | (simp;omega)
 refine ?v5 (fun σ' H'=>Fc ?gO ((∀a,a≠r->H' a=G a)) (?xR r (?zD ci ?f0)))
 . refine⟨_,rfl,p,Ad,dx,fs,_,rfl,hp,?v,?aG,l1,?r ⟨rfl,_,?bK⟩,_,rfl,_,rfl,p,Ad,dx,fs,_,rfl,hp,?v,?aG,l1,?r ⟨rfl,_,?bK⟩,_,rfl,r,_,_,i,_,rfl,rfl,?hR,O9m,O9m,six _ (by rw[qa2,xa.1];exact hi),MM,?_⟩;refine(?yO r (by ext v1));ext v1
 refine iH fun G1 e1 r1=>?_;intro sq;refine ?v5 (fun σ' H'=>Fc ?gO ((∀a,a≠b->H' a=G1 a)) (?xR b (?zD di ?dJ)))
 . have hp1:G1 p=_:=(e1 _ pr).trans hp;have b1:G1 b=_:=(e1 _ rb.symm).trans xb.2.1;refine⟨_,rfl,p,Ad,dx,fs,_,rfl,hp1,?v,?j2,l2,?vN b1,_,rfl,_,rfl,p,Ad,dx,fs,_,rfl,hp1,?v,?j2,l2,?vN b1,_,rfl,b,_,_,i,_,rfl,rfl,b1,O9m,O9m,six _ (by rw[qa2,xb.1];exact hi),edi,?_⟩;refine(?yO b (by ext v2));ext v2
 refine iH fun G2 e2 b2=>?_;intro sq;have r2:=(e2 _ rb).trans r1;have e02:∀a,a≠r->a≠b->G2 a=G a:=fun a h1 h2=>(e2 a h2).trans (e1 a h1);have hp2:=(e02 _ pr pb).trans hp;have qr:q≠r:=?x2 lx.nr ?p5;have qb:q≠b:=?x2 lx.nb ?p5;have q2:=(e02 _ qr qb).trans y.st;obtain⟨ya,ma⟩:=xa.move hi hs rci r2 fun a ha=>e02 a (na a ha).1 (na a ha).2.1;obtain⟨yb,mb⟩:=xb.move hi hs rdi b2 fun a ha=>e02 a (?jG).1 ?s5;obtain⟨cs,_,ecs,_,hcs⟩:=?vH ya.row ?eA
 have Ao1:Lat.moveR s.1 i ?u ?u=s.1 i:=by
  rw[Lat.move_row];unfold Lat.mvI;rw[?hO,?cU]
 rw[Ao1]at hcs;refine ?v5 (fun σ' H'=>?jM/\SX Ad H0 H' p q M n W (?pK t ?u st) ?eQ (?pI))
 . refine⟨_,rfl,p,Ad,dx,fs,_,rfl,hp2,?v,?c0,l3,?vN q2,_,rfl,_,rfl,p,Ad,dx,fs,_,rfl,hp2,?v,?aG,l1,_,rfl,r,_,_,_,rfl,rfl,.of r2,Bk (by rw[aL,Uq]at ecs;exact ecs),cs,W,st,_,rfl,hcs,hb,O9m,?_⟩;refine⟨q,_,?u,_,rfl,rfl,q2,by rw[Bu];exact hs,?c5 (?kT),?v6 ?i0⟩;rw[fT hs];have qp:p≠q:=E6 hp y.st (by intro z;cases z);refine⟨⟨r,b,⟨⟨dx,fs,by rw[Ak qp];exact hp2,l1,l2,l3,l4,l5⟩,⟨_,ya.put qr.symm fun a ha z=>(?qM).2.2 ?oW,fun a ha=>?qM⟩,⟨_,yb.put qb.symm fun a ha z=>(?uB).2.2 ?oW,fun a ha=>?uB⟩,rb,lx.nr,lx.nb,?j3⟩,f1,f2⟩,Ab,fun a o e=>?_,y.fp,y.fq,y.mq,⟨qJ,QI,O9m⟩⟩
   . by_cases haq:a=q
     . rw[haq,Ab]at z;cases z
     . rw[Ak haq,e02 a (fun e=>lx.nr ?o2) (fun e=>lx.nb ?o2)]at z;exact lx.nn a ha z
   . rw[Ak (Ar e y.fq),e02 a (Ar e f1) (Ar e f2)];exact y.same _ _ e
 refine Kl fun G3 z=>?_;intro sq;obtain⟨r3,b3,l3x,_⟩:=z.ex;obtain⟨dx3,vO,hp3,l1,l2,l3,l4,l5⟩:=l3x.ob;obtain⟨as3,xa3,na3⟩:=l3x.rw;obtain⟨c3,_,ec3,_,hc3⟩:=?vH xa3.row ?eA;have OZ:(?pI).1 ?u=s.1 i:=Ao1;rw[OZ]at hc3
 have est:?pK t ?u st ?u=st:=by
  unfold Lat.insT;rw[?hO,?cU]
 refine⟨_,rfl,p,Ad,dx3,vO,_,rfl,hp3,?v,?aG,l1,_,rfl,r3,_,_,_,rfl,rfl,.of xa3.2.1,Bk ec3,_,rfl,p,Ad,dx3,vO,_,rfl,hp3,?v,?c0,l3,_,rfl,q,_,_,_,rfl,rfl,.of z.st,?h0,c3,_,_,_,rfl,rfl,hc3,Bk (by rw[est];exact Cq hb.2.2),_,_,rfl,rfl,_,rfl,?_⟩;ext n6
 . have h5:s.1 i st<0:=?h6
   refine⟨_,rfl,p,dx3,vO,rfl,hp3,?dR,_,rfl,?b8,?kR⟩;have s1:?i G3 (?mH):=?eP;have hT:?w2 ?mH (.mi ?u):=⟨T1,_,rfl,?aA,⟨_,_,rfl,rfl,_,_,rfl,rfl,rfl⟩⟩
   generalize ?mH=G4 at s1 hT;refine⟨p,?dI,Ad,r3,b3,_,n,W,_,_,.mi ?u,rfl,?iL,l3x.keep s1,hT,?eA,?eA,O9m,O9m,fun r' b' G5 sx n1 n2 w=>?_⟩;refine k _ ?u st s hs hI hb hex ((z.redo s1 sx n1 n2 w).re ?_);rw[Lat.insS,?c2 (by rw[OZ];exact h5)];rfl
 . have h5:¬s.1 i st<0:=?h6
   refine k _ ?u st s hs hI hb hex (z.re ?_);rw[Lat.insS,?a8 (by rw[OZ];exact h5)]
noncomputable abbrev Xs:Stmt:=top 46
theorem P8:?C [?G,?iC,?lS,?eL,?f5] ?l2 (Av Xs):=Bg
theorem kU[?E](F:Ey K ?hU ?hU Xs f fd)[?D](E4:Has P w K mg ?e ?fZ ?gI 6 (Fy K))(Rw:Has P w K mg ?e ?o7 [?iC,"faces",?f5] 2 (Sl K)):Bx P w K mg ?e Eu 7 f fd ?l2 (aA K):=by
 refine ?w0 P8;obtain⟨a,b,xs,ms,rfl,hL,hb,hm,h4,⟨kc,GQ,hch⟩,kq⟩:=h;ext n7
 refine⟨_,(Ae (B8 (Ii (G6 (?xL E4 (Aa ?k (?v8 ?n (?z3 4)))))) ?jR Bo)
  (Ae (?vM P8.nd Sy)
  (Ae (gC (Ci qb9 rfl (Pe ?n) (?xJ (?z6 3 P8.nd) (?z6 4 P8.nd)) (Ai (Bw (?xL Rw (Aa ?p (Aa (?zN ?k ?t) ?e7)))))))
  (?z2 ?p)))),?_⟩
 ext K
 refine⟨_,rfl,_,rfl,a,b,xs,4,ms,rfl,hL,hb,hm,?q,?sV⟩;have hany:((?lD 4).any ?mQ)=true:=qn7.mpr ⟨kc,qe0.mpr GQ,hch⟩;refine ?f7;rw[hany];ext j0;have QK:=?dK;have hb1:=?sT;refine ?bE;have KY:b≠D:=Ar hb1 hD;have s2:?i H1 (?rW):=?f6;have hL2:=?x s2 QK;have hb2:=?yS hb1;generalize zZ:?rW=H2 at s2 hL2 hb2;have Le:H2 D=?c (.dK []):=by rw[←zZ];exact Ab
 refine ?O ⟨b,?aP,hb2,?pR⟩;refine⟨_,rfl,b,o,?aP,rfl,Ab,?_⟩
 let Be0:?dC:=fun i σ G=>Jj fun o1 o2=>B6 (σ=[?m,rS b,?R,o1,o2]) (G b=?c (?w1 o)) (G D=?y9 (?mN)) ((∀c q,c≠b->c≠D->H2 c=?c q->G c=?c q))
 refine U2 (d:=b) (o:=o) (kvs:=?aP) Be0
  ⟨?j,?j,rfl,Ab,?_,?_⟩ (fun i σ G _ hz=>by obtain⟨_,_,_,e,_⟩:=hz;exact e) ?_ ?_
 . rw[?f3];exact Le
 . intro c q n1 n2 e;rw[Ak n1];exact e
 . rintro i kk x σ G p hx Di hp
   and_intros
   revert σ;refine Vs ?_;intro o1 o2 vM Ef hkG Fd;obtain⟨q,hq,rfl,rfl⟩:=Zp hx;have npb:b≠p:=Ar vM hp;have npD:D≠p:=Ar Ef hp;have hlt:?p9:=?oI;have hqd:?jK=q:=by rw[qa4,hq];rfl
   have hpart:=qe9.mp hch q (qb6 hq)
   have hin:0<=q.1/\q.1<?rO:=by
    unfold Ol at hpart;rw[qc8]at hpart;exact dS hpart.1
   have sp:?x0 G G:=?i3
   have mL:LT K G ?hK xs:=by
    have e1:Q1 b H2 (?yI o):=fun c r n e=>by rw[Ak n];exact e
    have l1:=Rep.x e1 hb2 hL2;have d1:(?yI o) D=?c (.dK []):=by rw[?f3];exact Le
    have e2:Q1 D (?yI o) G:=fun c r n e=>by
     by_cases z:c=b
     . subst z;rw[Ab]at e;cases e;exact vM
     . rw[Ak z]at e;exact hkG c r z n e
    exact Rep.x (m:=[]) e2 d1 l1
   obtain⟨us,v,vH,hat,tv⟩:=LT.get (?x sp mL) hin.1 hin.2;ext mW
   have hfl:(?nI).length<=4:=by
    rcases Go (l:=xs) (i:=?o6) (d:=[]) with z | z
    . exact h4 _ z
    . rw[z];exact ?cS
   have oV:=aI h4 ms i;refine⟨_,rfl,_,rfl,_,rfl,a,us,_,v,rfl,rfl,vH,hat,_,rfl,D,v,?mN,?nI,q.2,rfl,sp _ _ Ef,tv,O9m,fun G2 sG2 eN=>?_⟩;refine⟨_,_,rfl,sG2 _ _ KY (sp _ _ vM),?_,fun c r n1 n2 e=>?_⟩
   . rw[eN];show _=?c (HO.dK (cK (iB (?mN) (?fD (?jK).1.toNat []) (?jK).2)));rw[hqd]
   . exact sG2 c r n2 (sp _ _ (hkG c r n1 n2 e))
 . ext e2;refine Vs ?_;intro o1 o2 vM Ef hkG Fd;rw[R7]at Ef;refine⟨vM,_,rfl,kq D _ (s1.free hD) (fun c q e=>?_) (by rw[?f3];exact Ef)⟩;by_cases z:c=b
   . subst z;rw[hb]at e;cases e;exact Ab
   . rw[Ak z];exact hkG c q z (Ar (s1 _ _ e) hD) (?yS (s1 _ _ e))
noncomputable abbrev Ud:Stmt:=top 57
theorem Nk:?C [?Z,?aN,"lines","stairs","i",?eH] ?lH (Av Ud):=Bg
theorem GD[?E](F:Ey K ?iE ?iE Ud f fd)[?D](Uv:FI P w K mg ?e Ad ?eI 2 (?vA DI))(K5:?yG P)(Jw:Kg P w K mg ?e Ad ?mI ?eU 6 (?vA Xg))(Jv:Kg P w K mg ?e Ad ?j8 ?aH 5 (?vA Xf)):Bx P w K mg ?e Eu 7 f fd ?lH (?vA Vm):=by
 refine ?w0 Nk;obtain⟨v,L,r,b,sv,N,n,w,M,P,PB,J,rfl,hv,lx,hn,hw,TJ,j0,jt,k⟩:=h;obtain⟨ta,us,rfl,Wj,Yw,N6⟩:=Hj hv;ext cE;obtain⟨ps,xp,np⟩:=lx.rw;obtain⟨bs,xb,nb⟩:=lx.bk;have nN:∀a,?e8->¬N a:=fun a e z=>lx.nn a z e
 refine⟨_,(Ae (Ap (i:=3) Nk.nd (M0 Uv hr ?h T.m_Stairs (Aa (B7 (N':=[?g1,"paper"]) (cap:=[none,none]) ?h ?aC (bM (K:=K) ?h T.n_zip (?v8 ?k (?zL ?p))) (?v7 (?xJ (?z6 0 NZ) (?z6 1 NZ))) ?aU (?v7 (Bf (Ij (K:=K)) ?k ?n))) (?zE (?yK (Aa (?vH Bb ?p) Ac))))))
  (Ae (Ci qb9 rfl (?w4 (?zE (?z1 ?aZ))) (?z6 4 Nk.nd) (Ae (Bw (Dp ?t ?v Jw hr ?e7))
  (Ai (Bw (Mz ?t ?v Jv hr)))))
  (Ae (Ap (i:=5) Nk.nd (M0 K5 hr ?h T.m_Lines (Aa (?zR (?v7 (Cv ?c1 ?k (C4 ?n) Ev))) (?zE (?vH Bb ?t)))))
  (?z2 (C7 (Aa (?zR (?v7 (Cv ?c1 ?k Ev (C4 ?n)))) ?dS)))))),?_⟩
 ext K
 refine ?v5 (fun σ' H'=>Jj fun p q=>σ'=[?cA,?aW,rS L,?l,none,none]/\SX Ad H H' p q (fun a=>?gY) n ?d7 (fun _=>0) 0 (?oO,PB))
 . refine⟨_,rfl,_,rfl,L,Ag,dx,fs,_,rfl,hp,?b9,?m1,l1,ta,r,rfl,⟨_,Wj⟩,⟨_,?nM⟩,?bE⟩
   refine AS (K:=K) (a:=ta) (b:=r) (xs:=us) (ys:=ps.map ?b4) (n:=n) (by rw[Yw,qa2,xp.1,qw4]) (fun i zs τ H1=>Er fun cs=>B6 (zs=cs.map ?b4) (cs.length=i) (Rows H H1 D cs ?d7 (?oO)) (Jj fun o1 o2=>τ=[o1,o2]))
    ⟨[],rfl,rfl,?mL hD,?j,?j,rfl⟩ (fun i zs τ H1 _ hz=>by obtain⟨cs,_,_,R,_⟩:=hz;exact⟨?cY Wj,?cY (?nM)⟩) ?_ ?_
   . rintro i x y zs τ H1 pr hx hy ⟨cs,rfl,hcl,R,o1,o2,rfl⟩ hpr;obtain⟨hi,bx,rfl,hbx⟩:=N6 i x hx;obtain⟨cy,_,ey,_,hcy⟩:=?vH xp.row hi;rw[ey]at hy;cases hy;have sp:?i H1 (?w6 cy):=?F hpr;refine(?wI pr);refine⟨_,rfl,_,rfl,bx,cy,_,_,rfl,rfl,sp.seq (?cY hbx),sp.seq (?cY hcy),Bs (by rw[Bu,Bu];omega),?gD⟩;have sE:?i (?w6 cy) (upd (?w6 cy) E (?o (VI w (M i)++VI n (P i)))):=?kO;refine⟨sE _ _ (sp _ _ R.at),?e6,cs++[E],?h1,?qN,?_,_,_,rfl⟩;refine ?l3 (sp.free hE) (?o5 sE) ?_;rw[hcl,Ab,iC (h:=?tK w M P i) (fun c hc=>Lat.beside_lo hc) (fun a _=>Lat.beside_hi w M P i a)]
   rintro zs τ H1 ⟨cs,rfl,hcl,R,_⟩;have hp1:=?tS;refine⟨_,rfl,L,Ag,dx,fs,_,rfl,hp1,?b9,?lZ,l2,b,_,rfl,?r (.of (?b0 _ _ xb.2.1)),fun B hB=>?_⟩;intro p qM np' uW XH;have s2:?i H1 (?oK):=?F hB;have hB2:upd H1 B (?o (?dJ)) B=?c (?o (?dJ)):=Ab;generalize ?oK=H2 at s2 hB2 np' uW;have s3:?i H2 (?pV):=?fR np';have WT:=(?iB s2).trans s3;have f2:∀a,H2 a=none->?e8:=fun a e=>(?iB s2).free e;refine⟨p,qM,_,_,rfl,Ab,fun q H4 fs' hq hfs sx hq4 Op=>?i0⟩;generalize ?pV=H3 at s3 WT hq sx;have f3:∀a,H3 a=none->?e8:=fun a e=>WT.free e;have st:∀a o,H2 a=?bJ->?sG:=?wN np';have xc:=(?jT s2)
   have qQ:TA H2 B bs n n PB:=⟨xb.1,hB2,fun i c e=>?yS (?b0 _ _ (xb.2.2 i c e))⟩
   have hHB:?yU B:=?p0 hB;have Ba6:=?yS R.at
   have q2:H2 q=none:=s3.free hq;have nM:∀a,H2 a≠none->¬N a->¬(?gY):=fun a h1 h2 h3=>h3.elim (?x2 h1 (z▸q2)) h2;refine ?v6 ⟨p,q,rfl,⟨⟨D,B,⟨⟨qM,fs',Op,?_,?_,?_,?kE,?_⟩,⟨cs,xc.same st,?fB⟩,⟨bs,qQ.same st,?fB⟩,?_,?_,?_,?j3⟩,?eJ,hHB⟩,hq4,fun a o e=>?rS,f2 _ np',f3 _ hq,?bD,⟨O9m,O9m,?cS⟩⟩⟩
   . rw[hfs];ext aS
   . rw[hfs];ext aS
   . rw[hfs];ext aS
   . rw[hfs,At,?dT,At,?dT,At,?dT];rfl
   . rw[hfs];exact qa5 (Cd _ _ _) (qa5 (qi8 (Cd _ _ _)) (qa5 (qi8 (qi8 (Cd _ _ _))) ?a7))
   . ext uK;exact⟨z2,Ar z3 hB,nM _ (by rw[?yS z3];ext iZ) (nN _ z1)⟩
   . have:=?rI a ha;refine⟨?x2 this ?lP,?x2 this (z▸hHB),nM a (qQ.there.2 a ha) ?r1⟩
   . exact Ar R.at hB
   . exact nM D (by rw[Ba6];ext iZ) (nN _ ?eJ)
   . exact nM B (by rw[hB2];ext iZ) (nN _ hHB)
   . rcases ha with rfl | ha
     . rw[hq4]at z;cases z
     . cases e:H a with
       | none=>exact ?tN
       | some o=>rw[?rS]at z;cases z
 refine uJ fun p q H1 x0=>?_;intro sq;refine ?v5 (fun σ' H'=>?zA (?yA H' n) n)
 . refine⟨_,rfl,ta,us,rfl,?r (x0.same.seq Wj),_,rfl,O9m,O9m,?_⟩;refine Co (lo:=0) (n:=(?pP:Int).toNat) (fun i σ' G=>?zA (?yA G i) i) ⟨?j,_,_,rfl,x0,j0 _⟩ ?_ ?_
   . rintro i σ G hi Di;revert σ;refine VD ?_;intro o4 t s y hJ Fd;rw[qe4,Yw]at hi;rw[qp7];obtain⟨I,hP,hD⟩:=TJ.step i t s hi hJ;obtain⟨r3,b3,ly,_⟩:=y.ex;obtain⟨dx3,vO,hp3,_,_,_,m4,_⟩:=ly.ob;refine⟨_,rfl,p,dx3,vO,rfl,hp3,?oV,_,rfl,H,p,q,_,n,w+n,t,i,s,I,rfl,y,hi,hP,jt i t s hJ,fun G1 spot st s' hs hI hb hex z=>?_⟩;obtain⟨d1,d2⟩:=hD ?u st s' hs hI hb hex;obtain⟨r4,b4,lz,_⟩:=z.ex;obtain⟨dx4,fs4,Op,_,_,_,m5,_⟩:=lz.ob;refine⟨_,rfl,p,dx4,fs4,rfl,Op,?oC,H,p,q,_,n,w+n,_,i,_,rfl,z,d1,fun G2 z2=>?_⟩;exact⟨_,_,_,rfl,z2,d2⟩
   . ext e2;refine VD ?_;intro o4 t s y hJ Fd;rw[qe4,Yw]at y hJ;exact ?v6 ⟨o4,t,s,rfl,y,hJ⟩
 refine Ac6 fun o4 t s G y hJ=>?_;intro sq;obtain⟨r,b,ly,f1,f2⟩:=y.ex;obtain⟨dx,fs,hp,l1,l2,l3,l4,l5⟩:=ly.ob;obtain⟨as,xa,na⟩:=ly.rw;obtain⟨bs,xb,nb⟩:=ly.bk;have s0:=y.same;refine ?v5 (fun σ' H'=>Jj fun(L' E:Addr)=>Dn (σ'=[?cA,?aW,rS L,?l,o4,rS L']) (?y8 G) (?yU L') (?yU E) (LX H' Ag L' E b ?j n n ?jI N))
 . refine⟨_,rfl,p,Ad,dx,fs,_,rfl,hp,?v,?aG,l1,r,rfl,⟨_,?bK⟩,?gD⟩;have xa':=?hR
   let Bd9:?aJ:=?vL (Rows G G1 E cs n (?q8))
   refine ?vS Bd9 ⟨[],rfl,rfl,?mL hE,?j,rfl⟩
   . ext uJ
     ext uP;refine(?wM hc);have sF:?i G1 (?wO ?pB ?j):=?F hF;ext uI;rw[hcl,Ab,UD]
   ext uU;have hp1:=?tS;refine⟨_,rfl,p,Ad,dx,fs,_,rfl,hp1,?v,?j2,l2,?_⟩;intro L' CF nL uW XH;have s3:?i G1 (?mR):=?fR nL;refine⟨L',CF,Ag,_,_,rfl,?bD,Ab,fun H4 fs' hfs hH4=>?i0⟩;have sx:?cX L' (?mR) H4:=by rw[hH4];exact ?eM (?gZ)
   have hL4:H4 L'=?c (?P Ag CF fs'):=by rw[hH4];exact Ab
   clear hH4;generalize ?mR=G3 at s3 sx;have st:∀a o,G1 a=?bJ->?sG:=?wN nL;have nN':∀a,G a=none->¬N a:=fun a e=>nN a (?lW e);refine ?v6 ⟨L',E,rfl,?iB st,?lW (?p0 nL),?lW ?eJ,⟨⟨CF,fs',hL4,?_,?_,?_,?kE,?_⟩,⟨cs,?jT st,?fB⟩,⟨bs,(xb.same ?b0).same st,?fB⟩,?_,nN' _ ?eJ,?_,?j3⟩⟩
   . rw[hfs];ext aS
   . rw[hfs];ext aS
   . rw[hfs];ext aS
   . rw[hfs,At,?dT,At,?dT];rfl
   . rw[hfs];exact qa5 (Cd _ _ _) (qa5 (qi8 (Cd _ _ _)) ?a7)
   . ext uK;exact⟨z2,?x2 ?nD (z▸z1),nN' _ z1⟩
   . exact⟨fun z=>?rI a ha ?lP,?s5,?x2 ?r1 (?O z)⟩
   . exact ?x2 ?nD ?lP
   . exact ?x2 ly.nb (?O z)
   . cases e:H a with
     | none=>exact ?tN
     | some o=>rw[st _ _ (?b0 _ _ (s0 _ _ e))]at z;cases z
 refine iG fun L' E G4 s4 fL fE lx4=>?_;intro sq;have Op:=s4 _ _ hp;have xa':=s4 _ _ ?hR;refine⟨_,rfl,p,Ad,dx,fs,_,rfl,Op,?v,?aG,l1,r,rfl,⟨_,.of xa'⟩,?bE⟩
 let Bd8:?aJ:=?vL (Rows G4 G1 D cs w (fun x a=>s.1 x a))
 refine ?vS Bd8 ?q2
 . ext uJ
   ext uP;refine(?wM (s4.seq hc));have sF:?i G1 (?wO ?j ?pB):=?F hF;ext uI;rw[hcl,Ab,Ap5]
 ext uU;refine⟨_,rfl,?b8,?rN⟩;have s5:?i G1 (upd G1 tp (?J ?rB)):=?F htp;have UO:=?iB s5;exact k tp D L' E b cs t s _ ((s0.trans s4).trans UO) hJ (?aA) (?jT s5) (lx4.keep UO) ((s0.trans s4).free ?eJ) fL fE f2
noncomputable abbrev Kw:Stmt:=top 49
theorem Jm:?C [?G,"k","below","columns"] ?i1 (Av Kw):=Bg
theorem Wd[?E](F:Ey K ?hA ?hA Kw f fd)[?D][?mZ][?mV][?fF](Pq:Has P w K mg ?e ?qH ["spots",?iC] 1 (Qr K))(CC:Has P w K mg ?e ?hU ?l2 7 (aA K)):Bx P w K mg ?e Eu 8 f fd ?i1 (Jk K):=by
 refine ?w0 Jm;obtain⟨a,xs,k,rfl,hL,J0,h4,h0,h5,kq⟩:=h;ext n7
 refine⟨_,(Ae (?zG (Bf Cl (?z3 4) Aj))
  (Ae (Ap (i:=2) Jm.nd (?xL Bt (?v8 ?k (?zB G7 ?n))))
  (Ae (Nt (N':=[?eL,"below",?G]) (cap:=[none,?c 2,?g4]) (i:=3) Jm.nd ?h (by ext n3) ?h ?aC (?vH B5 (?xL Bt ?bS)) (?v7 (?xS XR)) ?aU (?v7 (?xL Pq (Aa ?n (?zE (An CC hr (Aa ?p (Aa (iX (Xy ?k Aj iV) ?h ?h (by intro z;cases z) (Nat.le_of_ble_eq_true rfl)) Ac))))))))
  (Ai (Bd (?xL C5 (?v8 ?t (?z1 ?b2)))))))),?_⟩
 ext K
 refine⟨_,rfl,_,_,rfl,rfl,k,5,rfl,h0,h5,?_⟩;refine ?vK [?m,?L,none,none];ext aL;refine ?v5 (fun σ' H'=>Er fun(B:Addr)=>Fc (σ'=[?m,?L,rS B,none]) ?cN (?xR B ((?f1).map ?N)))
 . refine⟨_,rfl,_,rfl,_,_,rfl,rfl,a,k-1,xs,rfl,hL,J0,fun B H1 hB s1 hB1=>?_⟩;exact ?v6 ⟨B,rfl,s1,hB1⟩
 refine Sg fun B H1 s1 hB=>?_;intro sq;have QK:=?dK;have bl:?iA<=1000:=?tQ;have cl:?g8<=1000:=?tQ;refine ?v5 (fun σ' H'=>Jj fun(C:Addr) ?kV=>Fc (σ'=[?m,?L,rS B,rS C]) (as.length=?g8) (Rows H1 H' C as ?iA (?xZ 0)))
 . refine⟨_,rfl,_,rfl,a,k,xs,rfl,QK,J0,fun P H2 hP s2 hP2=>?_⟩;refine⟨P,rfl,⟨_,.of hP2⟩,?bE⟩
   let Bd7:?aJ:=fun i ys τ G=>Er fun ?kV=>B6 (as.length=i) (ys=?f0) (Rows H2 G D as ?iA (?xZ 0)) (?zC [o,rS B,?m])
   refine Cy (K:=K) (a:=P) (xs:=(?fU).map ?N) Bd7
    ?q2 (fun i ys τ G _ hz=>by obtain⟨_,_,_,R,_⟩:=hz;exact ?vJ ?b0 hP2) ?_ ?_
   . rintro i x ys τ G hx ⟨as,hal,rfl,R,o,rfl⟩;have hi:i<?g8:=by have:=?mD;simpa using this
     have hxv:x=?f (?kQ):=by
      rw[qa8,?dZ]at hx;rw[qa4,?dZ];simpa using hx.symm
     subst hxv
     have hmem:?kQ∈?fU:=by
      rw[qa4,?dZ];exact qd3 hi
     obtain⟨q0,q1,q2⟩:=Iv hmem;generalize hpe:?kQ=pl at q0 q1 q2;have A64:G8 [] [(Sum.inl pl,?N 1)]=cK ?cZ:=rfl;have sG:=?f9 ?b0;refine⟨_,rfl,_,rfl,fun e he=>⟨_,rfl,Ab,[(Sum.inl pl,?N 1)],rfl,?bH,?_⟩⟩;rw[A64]
     have e3:upd (upd G e (.dK [])) e (.dK (cK ?cZ))=?hV:=by
      funext b
      by_cases hb:b=e
      . subst hb;rw[Ab,Ab]
      . rw[Ak hb,Ak hb,Ak hb]
     rw[e3];have g1:?i G (?hV):=?F he;have vL:(?hV) e=?y9 ?cZ:=Ab;generalize ?hV=G1 at g1 vL
     have YK:?rZ<=4:=by
      rcases Go (l:=xs) (i:=pl.toNat) (d:=[]) with z | z
      . exact h4 _ z
      . rw[z];exact ?cS
     have Yx:Od xs k ?cZ=true:=by
      unfold Od Ol;rw[List.all_cons,List.all_nil,Bool.and_true,qc8];refine⟨?_,?bH⟩;show(?aQ (0<=pl)&&?aQ (pl<?rO)&&?aQ (Dq ?rZ=k))=true;rw[qg4 q0,qg4 q1,qg4 q2];rfl
     have hk3:k<4:=by
      rw[←q2];unfold Dq;split<;>omega
     refine⟨a,e,xs,?cZ,rfl,?x (sG.trans g1) QK,vL,?bH,h4,⟨k.toNat,O9m,by rw[?qE];exact Yx⟩,fun E2 G2 hE2 g2 Ba8=>?_⟩;refine⟨B,E2,?f1,E5 xs ?cZ,rfl,?vJ ((sG.trans g1).trans g2) hB,?r Ba8,bl,fun D2 G3 Le g3 aO=>?_⟩;have gG:=(?e5).trans g3;refine⟨gG _ _ R.at,?e6,as++[D2],by simp[hal],?h1,?l3 ((?e5).free Le) gG ?_,_,rfl⟩;rw[aO,SS,hal,hpe]
     congr 3
     apply aH;intro i' _;exact Zq xs pl _
   . rintro ys τ G ⟨as,hal,rfl,R,_⟩;rw[qa2]at hal;exact ?v6 ⟨D,as,rfl,hal,R.earlier s2⟩
 refine UI fun C as H2 hal R=>?_;intro sq;refine⟨_,rfl,_,rfl,B,_,rfl,?r (?vJ ?b0 hB),?d C,?g8,?iA,_,by rw[qa2];rfl,R.rep hal,cl,bl,fun D iA H3 YO R3=>?_⟩;exact kq D iA H3 YO (R3.earlier (?b5 ?b0))
noncomputable abbrev O9:Stmt:=Ex ?gT 2
theorem J7:?xE [?S,"height","by_rows","by_columns"] O9:=Bg
theorem bP[?E](F:Ey K ?kL ?qS O9 f fd)[?D](Tf:Has P w K mg ?e ?iE ?lH 7 (?vA Vm))[?fF]:?xP 8 dJ:=by
 refine ?w0 J7;obtain⟨H0,p,L,R,nm,n,w,M,l,r,ns,Nx,rfl,x,ok,k⟩:=h;obtain⟨qJ,QI⟩:=x.sm;ext mT;ext n0
 ext iY
 obtain⟨ta,us,rfl,hq,Yw,_⟩:=Hj hrep;obtain⟨J1,T1,j10,j1t,j1n⟩:=ok.ex;have Ak4:=?kW
 replace hq:=?oR
 refine⟨_,(Ae (?xD J7.nd ?eD)
  (Ae (?vM J7.nd (?xL Tf (Aa ?Q (Aa ?Q ?d2))))
  (Ae (?wC J7.nd (?xL Tf (Aa (?zO ?bX ?d2) (Aa ?n ?d2))))
  (Ae (?w5 (?zO (?xK ?t) ?W))
  (Ae (?w5 ?bX)
  (Ai (?w5 (?xK ?t)))))))),?_⟩
 ext K
 refine ?v5 (?xQ [?l,?mM,none,none] ?aX)
 . refine⟨_,rfl,p,Ah,dx,fs,_,rfl,hp,?s,?cK,l1,ta,us,rfl,?mB,?v6 ⟨by rw[Yw];rfl,rfl⟩⟩
 ext aL;refine ?v5 (fun σ' H'=>mO fun(tp D L' r1' vQ:Addr) ?kV ?lA ?m6=>iF (σ'=[?l,?mM,?a3,none]) ?cN (J1 n t s) (Ed K H' tp ?rB) (TA H' D as n w s.1) (?y0 L' ?jI) (?yU L') (?yU r1') (?yU vQ))
 . refine⟨_,rfl,p,Ah,dx,fs,_,rfl,hp,?s,?cK,l1,_,rfl,p,Ah,dx,fs,_,rfl,hp,?s,?lB,l2,_,rfl,p,Ah,dx,fs,_,rfl,hp,?s,?dG,l3,?m0,L,r1,b1,?j,_,n,w,M,l.1,l.2,J1,rfl,Ak4,lx,qJ,QI,T1,j10,j1t,fun tp D L' r' b' as t s H1 s1 hJ hT xD lx1 _ fL fr fb=>?_⟩;exact ?v6 ⟨tp,D,L',r',b',as,t,s,rfl,s1,hJ,hT,xD,lx1,fL,fr,fb⟩
 refine UH fun tp D L' r1' vQ as t s H1 s1 hJ hT xD lx1 fL fr fb=>?_;intro sq;obtain⟨J2,T2,j20,j2t,j2n⟩:=j1n t s hJ;have hp1:=?kU;refine ?v5 (fun σ' H'=>mO fun(WJ D2 R' r2' qN:Addr) (iA:?gB) (t2:?sP) (s2:?bR)=>iF (σ'=[?l,?mM,?a3,rS WJ]) ?g3 (J2 w t2 s2) (Ed K H' WJ [?f8,?d R']) (TA H' D2 iA w n s2.1) (LX H' Ag R' r2' qN ?j w w (fun x a=>s2.1 x (n+a),s2.2) (?i8)) (H1 R'=none) (H1 r2'=none) (H1 qN=none))
 . refine⟨_,rfl,tp,_,_,_,rfl,rfl,hT,rfl,_,rfl,p,Ah,dx,fs,_,rfl,hp1,?s,?lB,l2,?hW,n,w,s.1,rfl,xD.rep,O9m,O9m,fun F fas H2 hl2 R2=>?_⟩;have hp2:=?eW _ _ hp1;refine⟨_,rfl,_,rfl,p,Ah,dx,fs,_,rfl,hp2,?s,?e4,l4,?d F,R,r2,b2,?j,_,w,n,(fun i j=>s.1 j i),r.1,r.2,J2,rfl,R2.rep hl2,ly.keep (?mF),QI,qJ,T2,j20,j2t,fun WJ D2 R' r' b' iA t2 s2 H3 s3 hJ2 hT2 xD2 xX _ fR TN fb2=>?_⟩;exact ?v6 ⟨WJ,D2,R',r',b',iA,t2,s2,rfl,?jH s3,hJ2,hT2,xD2,xX,?lU fR,?lU TN,?lU fb2⟩
 refine UH fun WJ D2 R' r2' qN iA t2 s2 H3 s3 hJ2 hT2 xD2 xX fR TN fb2=>?_;intro sq;have hp3:=s3 _ _ hp1;have YR:=s3.seqT hT;refine⟨_,rfl,WJ,_,_,_,rfl,rfl,hT2,rfl,_,rfl,?f8,w,n,s2.1,rfl,xD2.rep,O9m,O9m,fun E eas H4 YK R4=>?_⟩;have RD:=R4.same;have Op:=RD _ _ hp3;have uP:?i H0 H4:=((x.same.trans s1).trans s3).trans RD;have n4:=(?b5 ?nC) _ _ x.nu;have A03:Rep K (Td H4 ?i8) ?aM (dT n w fun i j=>s2.1 j i):=R4.hid YK fun a ha z=>by cases ha;rw[(?b5 s3) _ _ x.nu]at z;cases z
 have hT4:=RD.seqT YR;have A94:=RD.seqT hT2
 have ex:∀a,?u0->H4 a≠none:=fun a ha=>by
  rcases ha with rfl | rfl | rfl
  . rw[n4];ext iZ
  . obtain⟨_,z,_⟩:=xX.rw;exact ?oL
  . obtain⟨_,z,_⟩:=xX.bk;exact ?oL
 have z1:LX H4 Ag L' r1' vQ ?j n n ?jI (fun a=>?u0):=lx1.more ?nC (fun a ha=>by
  rcases ha with rfl | rfl | rfl
  . exact ?r (?bD)
  . exact ?O TN
  . exact ?O fb2) ex
 have z2:=xX.keep RD;have SK:p≠L':=Ar hp fL;have uV:p≠R':=Ar hp1 fR;have LR:L'≠R':=fun z=>by obtain⟨_,_,q,_⟩:=lx1.ob;rw[z,fR]at q;cases q
 refine⟨_,rfl,p,Ah,dx,fs,rfl,Op,?s,?cK,O9m,?_⟩;have WN:?cX p H4 (?l6):=?gZ;have EL:upd H4 p (?wK fs) p=?c (?wK fs):=Ab;have ZV:Kp H4 (?l6):=Kp.upd;have e1:?sE=fs.length:=Mw l1;generalize ?l6=H5 at WN EL ZV;have hT5:=iO hT4 Op WN;have A93:=iO A94 Op WN;refine⟨_,rfl,tp,_,_,_,rfl,rfl,hT5,rfl,_,rfl,p,Ah,dx,_,rfl,EL,?s,?dG,O9m,?_⟩;have e2:?pU=?sE:=Mw (x:=?d L) (by rw[At,?iP];exact l3);have DC:?cX p H5 (?k2):=?gZ;have hp6:upd H5 p (?yN fs) p=?c (?yN fs):=Ab;have kp6:Kp H5 (?k2):=Kp.upd;generalize ?k2=H6 at DC hp6 kp6;refine⟨_,rfl,WJ,_,_,_,rfl,rfl,iO A93 EL DC,rfl,_,rfl,p,Ah,dx,_,rfl,hp6,?s,?e4,O9m,?_⟩;have e3:(?M ?eT (?b4 R') (?oY)).length=?pU:=Mw (x:=?d R) (by rw[At,?iP,At,?iP];exact l4);have sx:?cX p H4 (?y1 p):=?eM (WN.trans DC);have kp:Kp H4 (?y1 p):=(ZV.trans kp6).trans Kp.upd;have g0:∀a,?e8->?nZ:=fun a e=>x.same.free e;have g1:∀a,?pY->?nZ:=fun a e=>?lF e;have npn:nm≠p:=E6 x.nu hp (by intro z;cases z)
 refine k L' R' _ _ _ _ (j2n t2 s2 hJ2) ⟨⟨?d E,dx,_,Ab,?_,?_,?_,?_,?_,?kE,O9m,fun M' e=>by
  cases e
  exact Bc5 (p:=p) (dx:=dx) (C:=Ah) A03 (by rw[Yz npn.symm];exact Op) (fun a o ne e=>by
   by_cases z:a=nm
   . rw[LI z]at e;cases e
   . rw[Yz z]at e ⊢;exact sx _ _ ne e)⟩,⟨r1',vQ,r2',qN,z1.x Op SK sx kp,z2.x Op uV sx kp,g0 _ fr,g0 _ fb,g1 _ TN,g1 _ fb2⟩,sx _ _ npn n4,sx.same uP x.fr.1,⟨x.fr.1,g0 _ fL,g1 _ fR,?nK⟩,⟨SK,uV,LR⟩,⟨qJ,QI⟩⟩
 . ext aS
 . ext aS
 . ext aS
 . ext aS
 . ext aS
 . iterate 3 rw[At,?dT]
   exact l6 m hm
noncomputable abbrev G0:Stmt:=Ex ?gT 1
theorem Kt:?xE ?eU G0:=Bg
theorem Ru[?E](F:Ey K ?m8 ?oP G0 f fd)[?D](Lp:Kg P w K mg ?e Ah ?kL ?aH 8 (?vA dJ))(N8:Has P w K mg ?e ?rH [?Z] 1 (Oj K)):?xP 9 Oz:=by
 refine ?w0 Kt;obtain⟨H0,p,L,R,nm,n,w,M,l,r,U,rfl,x,ok,nx,k⟩:=h;have sm:=x.sm;obtain⟨_,dx,fs,hp,_,_,_,_,_,l6,_⟩:=x.ob
 refine⟨_,(Ae (?wS ?k Lp)
  (Ae (Su qb9 (?vP N8 ?d2) (Ai (?wS ?k Lp)))
  (Ai (Ci qb9 rfl (?w4 (?zE (Az (mC ?h) T.n_min ME (Aa ?eD ?d2)))) (?z6 1 Kt.nd) (Ai (B8 (?vW Ln (?yV ?aV)) (Ai (?z4 ?Q (?yV ?aV))) Bo)))))),?_⟩
 ext K
 refine ?v5 (fun σ' H'=>?i9/\∃L R m M l r,?mG/\?rC)
 . exact⟨_,rfl,p,dx,fs,rfl,hp,?sD,H0,p,L,R,nm,n,w,M,l,r,[],_,rfl,x,ok,fun L' R' M' l' r' H' ⟨m,hu⟩ y=>?v6 ⟨rfl,L',R',m,M',l',r',hu,y⟩⟩
 refine Kl fun H1 cX=>?_;intro sq;obtain⟨L,R,m,M,l,r,hU,x⟩:=cX;clear ok hp l6;refine ?v5 (fun σ' H'=>?i9/\∃L R m M l r,?mG/\Lat.Straight n w M/\?rC)
 . refine⟨fun m σ' G=>?i9/\∃L R M l r,?mG/\?xU G,⟨m,rfl,L,R,M,l,r,hU,x⟩,?_⟩;rintro m σ G Di;refine sW ?_;intro _;obtain⟨rfl,L,R,M,l,r,hU,x⟩:=Di;ext mT
   ext iY
   refine⟨_,rfl,p,Ah,dx,fs,_,rfl,hp,?s,?cK,l1,tv,n,w,M,rfl,?kW,O9m,O9m,?r5,?r5⟩
   . ext j0;exact ?v6 ⟨rfl,L,R,m,M,l,r,hU,hS,?nY⟩
   . refine BY (?bH) ?_;refine⟨fun σ' G'=>?i9/\∃L R m' M l r,m'<m/\U m' M l r/\?xU G',?_,?_⟩
     . rintro σ' G' ⟨rfl,L,R,m',M,l,r,hm,hU,y⟩;exact⟨m',hm,rfl,L,R,M,l,r,hU,y⟩
     . exact⟨_,rfl,p,dx,fs,rfl,?kU,?sD,H0,p,L,R,nm,n,w,M,l,r,[],_,rfl,?nY,nx m M l r hU hS,fun L' R' M' l' r' H' ⟨m',hm,hu⟩ y=>⟨rfl,L',R',m',M',l',r',hm,hu,y⟩⟩
 refine Kl fun H2 cX=>?_;intro sq;obtain⟨L,R,m,M,l,r,hU,hS,x⟩:=cX;ext mT
 ext iY
 obtain⟨ta,us,rfl,hq,Yw,N6⟩:=Hj hrep
 replace hq:=?oR
 have emin:?qP=min n w:=?kI
 refine⟨_,rfl,p,Ah,dx,fs,_,rfl,hp,?s,?cK,l1,ta,us,rfl,?mB,_,rfl,p,Ah,dx,fs,_,rfl,hp,?s,?lB,l2,_,_,rfl,_,rfl,?kI,?kI,?_⟩;refine Co (lo:=0) (n:=?qP) (fun i σ' G=>Er fun o1=>σ'=?qC/\WX K Ag Ah H0 G p L R nm n w ?iF l r (MK i M)) ?pN ?_ ?_
 . clear hp hrep hq N6 l1 l2 l3 l4 l5 l6 l7;rintro i σ G hi ⟨o1,rfl,y⟩;rw[emin]at hi;rw[qp7];obtain⟨tv,dx,fs,hp,l1,l2,l3,l4,l5,l6,l7,hrep⟩:=y.ob
   ext iY
   obtain⟨ta,us,rfl,hq,Yw,N6⟩:=Hj (?kW);have e:=qa0 (l:=us) (i:=i) O9m;obtain⟨_,b,eb,hb⟩:=N6 i _ e;rw[eb]at e;refine⟨_,rfl,p,Ah,dx,fs,_,rfl,hp,?s,?cK,l1,_,rfl,ta,_,_,_,rfl,rfl,hq,Bk e,_,rfl,b,_,_,_,rfl,rfl,hb,?h0,rfl,_,rfl,?_⟩;ext fH
   . have h0:¬M i i=0:=?cC
     refine⟨_,rfl,p,Ah,dx,fs,_,rfl,hp,?s,?cJ,l5,?vN y.nu,_,rfl,p,Ah,dx,fs,_,rfl,hp,?s,?cK,l1,_,rfl,ta,_,_,_,rfl,rfl,hq,Bk e,_,rfl,b,_,_,_,rfl,rfl,hb,?h0,nm,_,_,rfl,rfl,y.nu,?_,?_⟩
     . have:=SI i M;exact ?e6
     . have z:=y.num (ns':=MK ?eQ M);rw[Pk,?a8 h0,qb0]at z;exact⟨_,rfl,by rw[Pk,?a8 h0];exact z⟩
   . have h0:M i i=0:=?cC
     exact⟨_,rfl,by rw[Pk,?c2 h0];exact y⟩
 . ext e2;ext nA;rw[emin]at y;exact k L R m M l r _ hU hS y
noncomputable abbrev Rl:Stmt:=top 62
theorem Lj:?C [?Z,?aN,"work","left_back",?eT] ?cB (Av Rl):=Bg
theorem DZ[?E](F:Ey K ?hN ?hN Rl f fd)[?D](cA:FI P w K mg ?e Ah [?S,?Z,?aN] 3 (?vA DJ))(Hg:Kg P w K mg ?e Ah ?m8 ?aH 9 (?vA Oz))(F6:Kg P w K mg ?e Ah ?jQ ?aH 5 (?vA AB))[?fF](Uy:Has P w K mg ?e ?nV [?bI,?aN] 3 (Vj K)):?x3 10 J6:=by
 refine ?w0 Lj;ext v4;obtain⟨ta,us,rfl,hq,Yw,_⟩:=Hj hv;obtain⟨U,Y,a1,a2,a3,a4,a5⟩:=hP.ex
 refine⟨_,(Ae (B8 (?vP Uy ?bS) ?jR Bo)
  (Ae (?vM Lj.nd (M0 cA hr ?h T.m_Work ?bS))
  (Ae (?wS ?p Hg)
  (Ae (?wS ?p F6)
  (Ae (Ap (i:=3) Lj.nd (?xL C5 (?v8 ?iD (?z1 ?aZ))))
  (Ae (?wT Lj.nd (?xL C5 (Aa ?iD ?W)))
  (?z2 (C7 (Aa (?vH Bb ?p) (Aa ?iD (Aa ?t (?v8 ?a4 ?iD)))))))))))),?_⟩
 ext K
 refine qw7 (t:=?m4) (?xQ [?cA,?aW,none,none,none] ?eC) ?g ?_
 . refine⟨_,rfl,_,rfl,?m0,n,w,A,rfl,hv,hn,O9m,?tH⟩;ext j0;ext n8
 ext iU;refine ?v5 (fun σ' H'=>V6 fun p L R nm=>?xW ?l/\WX K Ag Ah H1 H' p L R nm n w (?c A) ?oG ?oG [])
 . refine⟨_,rfl,_,rfl,?_⟩;intro p dx np uW XH;have sN:?i H1 (upd (upd H1 dx ?sQ) p (?P Ah dx [])):=?fR np;exact⟨H1,p,dx,?m0,n,w,A,rfl,sN,np,Ab,?x s1 hv,O9m,hw,fun L R nm H' y=>⟨rfl,?v6 ⟨p,L,R,nm,rfl,y⟩⟩⟩
 refine Ac4 fun p L R nm H2 x=>?_;intro sq;refine ?v5 (fun σ' H'=>UG fun L R k f l r=>Dn (?xW ?l) (k<=n) (k<=w) (Y k 0 f l r) (WX K Ag Ah H1 H' p L R nm n w ?j l r (Hu k f)))
 . ext fE;refine⟨_,rfl,p,GY,GU,rfl,hpa,?nL,H1,p,L,R,nm,n,w,A,_,_,U,rfl,x,a1,a2,fun L' R' m M l r H' hU hS y=>?_⟩;obtain⟨k,f,e,k1,k2,hY⟩:=a3 m M l r hU hS;rw[e]at y;exact ?v6 ⟨L',R',k,f,l,r,rfl,k1,k2,hY,y.drop⟩
 refine Ac0 fun L R kk f l r H3 k1 k2 hY x=>?_;intro sq;refine ?v5 (fun σ' H'=>Og fun f l r=>B6 (?xW ?l) (Fin kk f l r) (?oE kk kk f) (WX K Ag Ah H1 H' p L R nm n w ?j l r (Hu kk f)))
 . ext fE;refine⟨_,rfl,p,GY,GU,rfl,hpa,?nL,H1,p,L,R,nm,n,w,kk,l,r,f,Y kk,rfl,x,k1,k2,hY,a4 kk,fun d f' l' r' H' hY' hC y=>?_⟩;exact ?v6 ⟨f',l',r',rfl,a5 _ _ _ _ _ hY',hC,y⟩
 refine uI fun f l r H4 hF hC x=>?_;intro sq;ext fE;ext n0;obtain⟨dl,fl,hL,e1,e2,_⟩:=lx.ob;obtain⟨dr,fr,hR,e3,e4,_⟩:=ly.ob;obtain⟨VQ,xa1,_⟩:=lx.rw;obtain⟨bs1,xb1,_⟩:=lx.bk;obtain⟨iA,xa2,_⟩:=ly.rw;obtain⟨bs2,qQ,_⟩:=ly.bk;have IU:=x.same;refine⟨_,rfl,p,Ah,GY,GU,_,rfl,hpa,?s,?dG,XY,L,Ag,dl,fl,_,rfl,hL,?b9,?lZ,e2,_,rfl,ta,us,rfl,?r ((?b5 IU).seq hq),?d b1,n,n,l.2,(by rw[Yw]<;>rfl),xb1.rep,O9m,O9m,fun D1 c1 H5 hc1 R1=>?_⟩;have UO:=R1.same;refine⟨_,rfl,p,Ah,GY,GU,_,rfl,(UO _ _ hpa),?s,?e4,ZU,R,Ag,dr,fr,_,rfl,(UO _ _ hR),?b9,?m1,e3,_,rfl,?d r2,w,w,r.1,rfl,(xa2.same UO).rep,O9m,O9m,fun D2 c2 H6 hc2 R2=>?_⟩;have zR:=UO.trans ?eW;refine⟨_,rfl,p,Ah,GY,GU,_,rfl,(zR _ _ hpa),?s,?cJ,VF,_,rfl,p,Ah,GY,GU,_,rfl,(zR _ _ hpa),?s,?dG,XY,L,Ag,dl,fl,_,rfl,(zR _ _ hL),?b9,?m1,e1,_,rfl,_,rfl,_,rfl,p,Ah,GY,GU,_,rfl,(zR _ _ hpa),?s,?e4,ZU,R,Ag,dr,fr,_,rfl,(zR _ _ hR),?b9,?lZ,e4,?b8,?rN⟩;have s67:?i H6 (upd H6 tp (?J [?d nm,?d r1,?d D1,?f8,?d b2])):=?F htp;have WR:=zR.trans s67;have mZ:=(?b5 IU).trans WR;have g1:∀a,?pY->?e8:=fun a e=>s1.free e;refine k tp nm r1 D1 D2 b2 kk f l r _ hF hC k1 k2 ⟨mZ,?aA,?uA,(xa1.same WR).rep,(R1.later ?sX).rep hc1,(R2.later s67).rep hc2,(qQ.same WR).rep,?fB⟩;rcases ha with rfl | rfl | rfl | rfl | rfl
 . exact⟨g1 _ ?nK,_,?uA,?kT⟩
 . exact⟨g1 _ f1,_,WR _ _ xa1.2.1,by rw[qa2,xa1.1];omega⟩
 . exact⟨g1 _ (IU.free R1.free),_,?sX _ _ R1.at,by rw[qa2,hc1];omega⟩
 . exact⟨g1 _ (IU.free (UO.free R2.free)),_,s67 _ _ R2.at,by rw[qa2,hc2];omega⟩
 . exact⟨g1 _ f4,_,WR _ _ qQ.2.1,by rw[qa2,qQ.1];omega⟩
noncomputable abbrev fZ:Stmt:=top 63
theorem QZ:?C ?cB ?cB (Av fZ):=Bg
theorem SA[?E](F:Ey K ?fP ?fP fZ f fd)[?D][?mX]:?x3 11 DK:=by
 refine ?w0 QZ;ext v4;refine(?zJ (?vC (?xK (An Fw hr ?bS))));refine⟨_,rfl,_,rfl,v,n,w,A,Fin,rfl,hv,hn,hw,hP,fun tp nm r1 D1 D2 b2 kk f l r H' hF hC k1 k2 x=>?_⟩;refine⟨tp,_,_,_,rfl,rfl,x.tup,rfl,nm,_,rfl,?r (.of x.num),?_⟩;rw[Bu];exact k kk f l r H' hF hC k1 k2 ?c3
noncomputable abbrev Rn:Stmt:=top 67
theorem Dx:?C [?G,?lS,?k1,?kG,"k",?aN,?eH,?kD] [?G] (Av Rn):=Bg
theorem EB[?E](F:Ey K ?hQ ?hQ Rn f fd)[?D](Qy:Has P w K mg ?e "ones" ["size"] 2 (bF K))[?mX][?mV][?uT](Uw:Has P w K mg ?e ?gX ?j9 4 (Vh K))[?fF][?uX]:Bx P w K mg ?e Eu 11 f fd [?G] (Vl K):=by
 refine ?w0 Dx;obtain⟨a,xs,rfl,hL,hs,J0,kq⟩:=h;ext n7
 have h4:?sS:=fun x hx=>by
  obtain⟨i,hi⟩:=qh7 hx;rcases (hs i x hi).cnt with e | e | e | e<;>omega
 ext uY
 refine⟨_,(Ae (?xD ?bL ?gA)
  (Ae (?zQ 2 (?xL Qy (?zE (?vC (An Bt hr (Aa ?k ?bZ))))))
  (Ae (?wC ?bL (?xL Qy (?zE (?z1 ?b2))))
  (Ae (Ci qb9 rfl (?w4 (?zE (?z3 4))) (?z6 4 ?bL) (Ae (?zQ 5 (?z1 (?zE (?xL Bt (?v8 ?k (Bf Cl ?a4 Aj))))))
  (Ae (?zQ 6 (?xL Fw (Aa (An K6 hr (Aa ?t (Aa (An Et hr (?v8 ?k (?zB Cl ?a4))) ?dS))) ?dS)))
  (Ae (?z4 ?n (?xL Uw (Aa ?k (Aa ?a4 (Aa ?d1 (Aa ?p ?eR))))))
  (Ae (?zQ 7 (?vC (?xK ?d1)))
  (Ae (?vM ?bL (Cv ?c1 (?zO (?xK ?d1) ?dS) ?oN Ev))
  (Ai (?wC ?bL (Cv ?c1 (?xK ?d1) ?oN Ev)))))))))
  (?z2 ?n))))),?_⟩
 ext K
 refine ?v5 (fun σ' H'=>Er fun ?hJ=>B6 (?xI ?R none) ?cN (?yU D) (?xR D []))
 . ext uN
 refine v9 fun D H1 s1 nD hD=>?_;intro sq;refine ?v5 (fun σ' H'=>Er fun(la:Addr)=>B6 (?xI ?R ?a1) ?g3 (la≠D) (?yF ?lQ))
 . refine⟨_,rfl,a,0,xs,rfl,?dK,O9m,?sI⟩;ext n2;exact⟨?cL,rfl,?p7,fun la at_ H3 hal R3=>?v6 ⟨la,rfl,?f9 ?f2,?pE,JK (R3.rep hal)⟩⟩
 refine v9 fun la H2 s2 nlD hla=>?_;intro sq;refine ?v5 (fun σ' H'=>Er fun(ga:Addr)=>B6 (σ'=[?m,?R,?a1,?a0,none,none,none,none]) ?iM (ga≠D) (?yF ?fO))
 . obtain⟨_,lu,ez,hlq,yK,_⟩:=Hj hla;cases ez;ext v3;exact⟨?cL,rfl,?p7,fun ga at_ H3 hal R3=>?v6 ⟨ga,rfl,?f2,?pE,JK (R3.rep hal)⟩⟩
 refine v9 fun ga H3 s3 ngD hga=>?_;intro sq;have WS:=(?mK).trans s3;refine ?v5 (fun σ' H'=>vZ K H a D xs 4 σ' H')
 . refine ?nO;refine Co (lo:=0) (n:=4) (fun k σ G'=>vZ K H a D xs k σ G') ?_ ?_ ?_
   . refine⟨[],[],la,ga,?cL,?eG,?eG,_,_,_,_,rfl,WS,(?m2) _ _ hD,rfl,Lu.first xs,?nS,nlD,ngD,?x s3 hla,hga,?_,qa1 _,one_bits _ _,one_bits _ _⟩
     have e0:Dh xs (?tV-1)=0:=by
      show(Ht xs (0-1)).length=0;rw[iW];rfl
     rw[e0];exact Lat.Lev.first _ _
   . rintro k σ G' hk Di
     and_intros
     obtain⟨us,ls,la,ga,z,L,G,o4,o5,o6,o7,rfl,g,Ef,tK,Yx,hB,nla,nga,rla,rga,lev,hzm,bL,bG⟩:=Di;rw[show ?cO+?a9=?a9 by omega];have B87:=pl ?a9;have B67:=pl (?bY)
     have hzw:z+?b6<=40:=by
      have:=dR (xs:=xs) (show ?a9≠?bY by omega);omega
     have qR:?w3 k:=hB.1.trans tK;have ekk:?bY-1=?a9:=O9m
     have mL:=?x g hL;refine ?v5 (fun σ' H'=>σ'=[?m,?R,?a1,?a0,?eE,?f4,o6,o7]/\?y8 G')
     . refine⟨_,rfl,_,rfl,_,_,rfl,rfl,a,?bY,xs,rfl,mL,O9m,?sI⟩;ext n2;exact ?v6 ⟨rfl,s2⟩
     refine Kl fun G1 g1=>?_;intro sq;have tw:=OI hs ?a9;have told:=lev.told tw;obtain⟨pv,st⟩:=lev.st;have plan:=AV st told (fun q c _ _=>iL h4 _ q c) hzw;refine ?v5 (fun σ' H'=>mJ fun(tp nm r1 D1 D2 b2:Addr) (k0:Nat) (f:?dY) (l r:?bR)=>Dn (?yB o7) (?y8 G1) (?y3 f) (ID D nm r1 D1 D2 b2) (?xY v7 ?a9))
     . refine⟨_,rfl,_,rfl,_,rfl,_,_,rfl,rfl,a,xs,?bY,rfl,?x (?lJ) hL,O9m,h4,O9m,O9m,fun T as G2 hal R2=>?_⟩;rw[ekk]at hal;have rT:Rep K G2 (?dN) (dT (?jB) (?b6) (?j6)):=?mO;refine⟨_,rfl,?fO,?dN,z,?jB,?b6,G,?j6,rfl,?x (?jC ?eW) rga,rT,O9m,O9m,O9m,fun i j c hi hj hc=>S8 (bG i j hi hj) (FP h4 _ j c) (by unfold bookF;decide),fun T2 iA G3 YO R3=>?_⟩;refine⟨_,rfl,?d T2,z,?b6,Lat.gT (?jB) G (?j6),_,rfl,R3.rep YO,O9m,O9m,plan,fun tp nm r1 D1 D2 b2 k0 f l r G4 hF hC k1 k2 x=>?_⟩;exact ?v6 ⟨tp,nm,r1,D1,D2,b2,k0,f,l,r,rfl,(?jH ?f2).trans ?c3,x.r,x.ne (((?jC ?eW).trans ?f2) _ _ Ef),⟨lev,hF,hC,k1,k2,bL,bG,hzm⟩⟩
     refine WE fun tp nm r1 D1 D2 b2 k0 f l r G2 g2 x xn bl=>?_;intro sq;have qL:=?e5;refine ?v5 (fun σ' H'=>Er fun(us':?dE)=>Dn (?yB o7) ?cN (?xR D us') (Fx D H' us' (ls++[?xY Gh ?a9])) (?y3 f))
     . refine⟨_,rfl,?vN (?s8),_,rfl,_,rfl,_,rfl,_,rfl,_,rfl,a,tp,nm,r1,D1,D2,b2,?lQ,?fO,xs,?a9,z,k0,_,L,G,f,l,r,rfl,?x (?cG qL) hL,J0,rfl,?x qL rla,?x qL rga,x,O9m,bl.kz,bl.kw,fun i hi=>by have:=bl.fin.dg.pos i hi;omega,bl.fin.bl.1,bl.fin.bl.2,bL,bG,fun E eu G3 nE g3 hE rE=>?_⟩;have VN:=qL.trans g3;refine⟨D,_,_,rfl,rfl,?kM,?d4,?_⟩;have nED:E≠D:=fun q=>by rw[q,?s8]at nE;cases nE
       refine ?v6 ⟨us++[?d E],rfl,(?cG VN).turn nD,Ab,?_,?_⟩
       . exact(hB.same VN).snoc (?kM) nED hE rE
       . exact(?c3 g3).put xn (?kM) hB.refs
     refine UJ fun us' G3 g3 yT hB3 x3=>?_;intro sq;refine ?v5 (fun σ' H'=>σ'=[?m,?R,?a1,?a0,?eE,?f4,?a3,?xO ?gF]/\G3=H')
     . refine⟨_,rfl,tp,_,_,_,rfl,rfl,?m9,rfl,nm,_,rfl,?r x3.num,?_⟩;rw[Bu];ext iV
     rintro _ _ ⟨rfl,rfl⟩;have hkw:=bl.kw;refine ?v5 (fun σ' H'=>Er fun(la2:Addr)=>B6 (σ'=[?m,?R,rS la2,?a0,?eE,?f4,?a3,?xO ?gF]) (?y8 G3) (la2≠D) (?yE la2 (dT (?b6-k0) (?b6) ?tL)))
     . refine⟨_,rfl,tp,_,_,_,rfl,rfl,?m9,rfl,_,rfl,?f8,_,_,_,rfl,x3.right,O9m,O9m,fun F as G4 hal R4=>?_⟩;refine⟨_,rfl,_,rfl,F,_,rfl,.of R4.at,?cM⟩;have ec:Cf (?f0) (?c ?gF) ?j=(as.drop k0).map ?b4:=by rw[Hk,qo9]
       rw[ec];have R5:=R4.drop (k:=k0) hC rfl;refine ?v6 ⟨C,rfl,R5.same,(Ar (?jN _ _ yT) hC).symm,?_⟩;exact R5.rep (by rw[qg6,hal])
     refine v9 fun la2 G4 g4 A21 A02=>?_;intro sq;have x4:=x3.same g4;obtain⟨_,bu,ez,hbq,A86,Am3⟩:=Hj x4.rback;cases ez;refine⟨_,rfl,tp,_,_,_,rfl,rfl,?jS,rfl,_,rfl,_,rfl,b2,bu,rfl,hbq,?cM⟩;rw[Hk];have g5:=?F (o:=?o (bu.drop k0)) hC;refine⟨us',ls++[?xY Gh ?a9],la2,C,?b6-k0,(?tL),(fun i=>r.2 (k0+i)),_,_,_,_,rfl,(?sH g4).trans g5,(g4.trans g5) _ _ yT,by rw[qb1,tK];rfl,Yx.snoc bl,hB3.same (g4.trans g5),A21,(Ar (g4 _ _ yT) hC).symm,?_,?_,?_,?_,?_,?_⟩
     . ext fG;exact ?x g5 A02
     . ext fG;refine TU (us:=bu) (fun i u e=>?_) A86 (?aA);obtain⟨h1,b,eb,hb⟩:=Am3 i u e;exact⟨h1,b,eb,g5.seq hb⟩
     . obtain⟨pl',lo⟩:=bl.fin.lo;have:=lev.next tw bl.fin.dg bl.fin.il bl.fin.ir lo;rw[?u2,ekk];exact this
     . ext fG;omega
     . ext fG;exact fun i c hi hc=>bl.fin.br.1 _ _ O9m hc
     . ext fG;exact fun i c hi hc=>bl.fin.br.2 _ _ O9m hc
   . rintro σ G' h;exact ?v6 h
 rintro _ H4 ⟨us,ls,la',ga',z,L,G,o4,o5,o6,o7,rfl,g,Ef,tK,Yx,hB,_⟩;exact⟨_,rfl,kq D us ls H4 nD g Ef tK ⟨_,_,_,Yx⟩ hB.out⟩
noncomputable abbrev L8:Stmt:=Ex (top 70) 0
theorem O7:?C [?S,?bI,"bases"] ?kX (Av L8):=Bg
theorem Yd[?E](F:Ey K ?cD ?sB L8 f fd)[?D](U1:Has P w K mg ?e ?hQ [?G] 11 (Vl K))(Ux:Has P w K mg ?e ?nE [?G,"bases"] 3 (Vi K))(Uz:Has P w K mg ?e ?gC ?dX 6 (Sk K))(Ik:Has P w K mg ?e ?rD ?qU 1 (Kn K)):Bx P w K mg ?e Eu 12 f fd ?kX ?q1:=by
 refine ?w0 O7;obtain⟨p,dx,a,us,H0,xs,rfl,hp,ha,r,s0,n0a,n0p,hs,J0,k⟩:=h;have hL:LT K H ?hK xs:=⟨a,us,rfl,.of ha,?aT s0 r⟩
 have nap:a≠p:=fun z=>by rw[z,hp]at ha;cases ha
 refine⟨_,(Ae (B8 (?vP Uz ?W) ?jR Bo)
  (Ae (?w5 (?yK ?W))
  (Ae (?vM O7.nd (?xL U1 ?d2))
  (Ae (Ew (K:=K) ?k (B7 (N':=?qU) (cap:=?g7) ?h ?aC (?vH B5 ?p) (?v7 (?xS XQ)) ?aU (?v7 (?xL Ik ?aZ))))
  (Ai (?w5 (?xL Ux (Aa ?Q ?b2)))))))),?_⟩
 ext K
 refine ?v5 (?xQ [?l,?m,none] ?eC)
 . refine⟨_,rfl,?d a,xs,rfl,hL,hs,J0,?tH⟩;exact On ?a7 (?tU)
 ext iU;refine ?v5 (fun σ' H'=>Er fun ?pT=>Hq (σ'=[?l,?m,none]) (?cX p H H') (H' P=?dB) (P≠p) (P≠a) (H' p=?c (?P Aw dx [?k6])))
 . refine⟨_,rfl,a,us,rfl,?r (?vJ s1 ha),fun P hP=>?_⟩;have s2:=?b5 (?F (o:=?o us) hP);have nPp:P≠p:=(Ar (?kU) hP).symm;refine⟨_,rfl,p,Aw,dx,[],rfl,?yS hp,?c4,?jF,?bH,?_⟩;exact ?v6 ⟨P,rfl,?eM (?fS s2),by rw[Ak nPp];exact Ab,nPp,(Ar (s1 _ _ ha) hP).symm,?m5⟩
 refine Ac9 fun P H2 sx2 hP2 nPp nPa hp2=>?_;intro sq;have wU:=sx2.same s0 n0p;have ha2:=sx2 _ _ nap ha;refine ?v5 (fun σ' H'=>Og fun ?hJ (bu:?dE) ?oH=>Mn (σ'=[?l,?m,?R]) ?iM (?xR D bu) (D≠p) (Oh H' bu ls) (ls.length=4) (∃z L G,Lu xs 4 ls z L G))
 . refine⟨_,rfl,p,Aw,dx,_,_,rfl,hp2,?c4,?jF,rfl,P,xs,rfl,(?wJ hP2 wU),hs,J0,fun D bu ls H3 nD s3 hD YK Yx hB=>?_⟩;exact ?v6 ⟨D,bu,ls,rfl,s3,hD,(Ar hp2 nD).symm,hB,YK,Yx⟩
 refine Ac5 fun D bu ls H3 s3 hD nDp hB YK Ak2=>?_;intro sq;have Yx:=let ⟨_,_,_,t⟩:=Ak2;Lu.lev t
 have hp3:=s3 _ _ hp2;have ha3:=s3 _ _ ha2;have h0:=hB.1;refine ?v5 (fun σ' H'=>Jj fun(Lv:Addr) (ws:?dE)=>Ve (σ'=[?l,?m,?R]) (?cX p H3 H') (?xR Lv ws) (Lv≠p) (Lv≠a) (Oh H' ws (ls.map Wv)) ((∀v∈ws,v≠?d a)) (H' p=?c (?P Aw dx ?lM)))
 . refine⟨_,rfl,D,rfl,⟨_,.of hD⟩,fun Lv qK=>?_⟩;have nLp:Lv≠p:=(Ar hp3 qK).symm;have nLa:Lv≠a:=(Ar ha3 qK).symm
   let Bd6:?aJ:=fun i ws τ G=>Dn (?i H3 G) (G Lv=?c (?o ws)) (Fx Lv G ws ((ls.take i).map Wv)) ((∀v∈ws,v≠?d a)) ?fY
   refine Cy (K:=K) (a:=D) (xs:=bu) Bd6
    ⟨?F qK,Ab,?nS,(fun v hv=>by cases hv),?j,rfl⟩ (fun i ws τ G _ hz=>by obtain⟨g,_⟩:=hz;exact ?vJ g hD) ?_ ?_
   . rintro i v ws τ G hv Di;revert τ;refine oM ?_;intro g mL hW hna o Fd;have hi:=?lE;obtain⟨ps,hps⟩:∃ps,ls[i]?=?c ps:=?lR
     obtain⟨pa,pu,rfl,hpa,rP⟩:=hB.2 i v ps hv hps;have hpl:=(Yx i ps hps).len J0
     have wl:ws.length<=i:=by
      have:=hW.1;rw[qa2,qc1]at this;omega
     refine⟨_,rfl,pa,pu,ps,rfl,g _ _ hpa,rP.same g,O9m,fun E eu G2 nE g2 hE rE=>?_⟩;have nEL:E≠Lv:=(Ar mL nE).symm;refine⟨?r7,?d4,(?cG g2).turn qK,Ab,?_,fun v hv=>?_,_,rfl⟩
     . rw[qf5,hps,qb0];exact(hW.same g2).snoc (?r7) nEL hE rE
     . rcases qj5.mp hv with hv | hv
       . exact hna v hv
       . rw[qr0]at hv;subst hv
         exact fun z=>by
          cases z;rw[g _ _ ha3]at nE;cases nE
   . rintro ws τ G ⟨g,mL,hW,hna,_⟩;rw[h0,qd2]at hW;refine(?wU ?lK ?nG);refine ?v6 ⟨Lv,ws,rfl,?eM (?fS g),by rw[Ak nLp];exact mL,nLp,nLa,?tW,hna,?m5⟩;obtain⟨E,eu,rfl,_,hE,rE⟩:=?u4;refine⟨E,eu,rfl,?_,B4.kd (fun c o e ho=>?_) rE⟩
     . rw[Ak ?kY]
       . exact hE
       . rw[z,?lK]at hE;cases hE
     . rw[Ak ?kY]
       . exact e
       . rw[z,?lK]at e;cases e;ext n4
 refine Ac7 fun Lv ws H4 UN qK nLp nLa hW hna Op=>?_;intro sq;have uP:=UN.same (wU.trans s3) n0p;have hP4:=UN _ _ nPp (s3 _ _ hP2);have gS:=UN _ _ nDp hD;have ha4:=UN _ _ nap ha3;have kd4:∀c o,H3 c=?bJ->(∀C d f,o≠?P C d f)->H4 c=?bJ:=fun c o e h=>UN _ _ (fun z=>by rw[z,hp3]at e;cases e;exact h _ _ _ rfl) e
 have hB4:Oh H4 bu ls:=⟨h0,fun i v ps e1 e2=>by
  obtain⟨E,eu,rfl,hE,rE⟩:=hB.2 i v ps e1 e2;exact⟨E,eu,rfl,kd4 _ _ hE fun _ _ _ z=>(by cases z),B4.kd (fun c o e ho=>kd4 c o e fun _ _ _ z=>by rcases ho with⟨_,q⟩|⟨_,q⟩<;>rw[q]at z<;>cases z) rE⟩⟩
 refine⟨_,rfl,p,Aw,dx,_,_,rfl,Op,?c4,?jF,rfl,_,rfl,P,D,xs,bu,ls,rfl,(?wJ hP4 uP),J0,gS,hB4,fun ps hps=>?_,fun Lf wu H5 nLf s5 hLf dd=>?_⟩
 . obtain⟨i,hi⟩:=qh7 hps;exact(Yx i ps hi).ok J0
 have nfp:Lf≠p:=(Ar Op nLf).symm;have nfa:Lf≠a:=(Ar ha4 nLf).symm;have EL:=s5 _ _ Op;refine(?wU EL T.na_Book_lifts);have hp6:upd H5 p (?xA Lf) p=?c (?P Aw dx [?k6,?r2,(?g0,?d Lf)]):=?m5
 have DC:?cX p H5 (?oJ):=?gZ;generalize ?oJ=H6 at hp6 DC;have ha6:=?xC nap ha4;have s06:=DC.same (uP.trans s5) n0p;have sB:=oU s06 n0a
 have kd6:∀c o,H5 c=?bJ->((∃l,o=?J l)\/∃l,o=.dK l)->LK H6 a c=?bJ:=fun c o e ho=>by
  have ncp:c≠p:=fun z=>by rw[z,EL]at e;cases e;ext n4
  have e6:=DC c o ncp e;rw[Lq ?kY]
  . exact e6
  . rw[z,ha6]at e6;cases e6;ext n4
 refine k (LK H6 a) ls H6 (((sx2.trans (?fS s3)).trans UN).trans ((?fS s5).trans DC)) ⟨⟨dx,P,Lv,Lf,ws,wu,?_,(?wJ ?_ sB),?_,?tW,?_,dd.1,fun i v e=>?_⟩,hs,J0,YK,Yx,Ak2⟩ sB LJ jF
 . rw[Lq nap.symm];exact hp6
 . rw[Lq nPa];exact ?xC nPp hP4
 . rw[Lq nLa];exact ?xC nLp qK
 . obtain⟨E,eu,rfl,hE,rE⟩:=?u4;have hE5:=s5 _ _ hE;have nEp:E≠p:=fun z=>by rw[z,EL]at hE5;cases hE5
   have nEa:E≠a:=fun z=>hna _ (qb6 e1) (by rw[z]);exact⟨E,eu,rfl,by rw[Lq nEa];exact DC _ _ nEp hE5,B4.kd kd6 (rE.same s5)⟩
 . rw[Lq nfa];exact DC _ _ nfp hLf
 . obtain⟨c,e1,_,e2⟩:=dd.2 i v e;exact⟨c,e1,rfl,kd6 _ _ e2 (?O ?aO)⟩
noncomputable abbrev Ih:Stmt:=top 83
theorem Gx:?C [?d6,?bQ,"_law_width",?hC] ?g6 (Av Ih):=Bg
theorem S6[?E](F:Ey K ?gU ?gU Ih f fd)[?D][?uQ][?mX](oW:Has P w K mg ?e ?fP ?cB 11 (DK K))[?uX]:Bx P w K mg ?e Eu 12 f fd ?g6 (DH K):=by
 refine ?w0 Gx;obtain⟨a,xs,k,rfl,hL,hs,J0,hk0,hk5,kq⟩:=h;have h4:?sS:=AD hs;ext uY;obtain⟨_,us,ez,hq,r⟩:=id hL
 refine⟨_,(Ae (?vM Gx.nd (?xL Im ?bS))
  (Ae (Ap (i:=3) Gx.nd (?xK (?vX Fw)))
  (Ae (B8 (Be Ln (?vX oW) (?z1 ?eR) ?H) (?z2 X1) Bo)
  (?z2 ?t)))),?_⟩
 ext K
 cases ez;have lst:∀{G:Hp}{C:Addr},?gQ->G C=none->?i G (?x5 G)/\LT K (?x5 G) (?d C) xs:=fun {G C} g nC=>⟨?F nC,C,us,rfl,?aA,?aT (?cG (?F nC)) r⟩
 refine ?v5 (?xQ [?m,?L,?aK,none] ?aX)
 . exact⟨_,rfl,_,rfl,a,xs,k,rfl,hL,O9m,hk0,?fV⟩
 ext aL;have plan:=mU h4 J0 k;refine ?v5 (fun σ' H'=>Jj fun(nm:Addr) (ns:?l4)=>Dn (σ'=[?m,?L,?aK,rS nm]) (?yU nm) ?cN (?xR nm (ns.map ?N)) (Nd xs k ns))
 . refine⟨_,rfl,a,us,rfl,?mB,?cM⟩;obtain⟨s1,QK⟩:=lst (?dH H) hC;generalize ?x5 H=H1 at s1 QK;refine⟨_,rfl,C,xs,k,rfl,QK,O9m,h4,hk0,hk5,fun T as H2 hal R2=>?_⟩;have rT:?w9 H2:=?mO;have p1:=pl (k-1);have p2:=pl k;refine⟨_,rfl,?dN,_,_,_,_,rfl,rT,O9m,O9m,plan,fun tp nm r1 D1 D2 b2 k0 f l r H3 hF hC k1 k2 x=>?_⟩;refine⟨tp,_,_,_,rfl,rfl,x.tup,rfl,?_⟩;exact ?v6 ⟨nm,Hu k0 f,rfl,(?mF).free (x.new nm (?bD)).1,?pZ ?c3,x.num,k0,f,_,l,r,rfl,hF.dg,hF.il,hF.ir,hC⟩
 refine iG fun nm ns H1 nnm g1 hnm ok=>?_;intro sq;refine ?v5 (?xQ [?m,?L,?aK,rS nm] ?qJ)
 . refine⟨_,rfl,a,us,rfl,?r (g1.seq hq),?cM⟩;obtain⟨s1,QK⟩:=lst g1 hC;generalize ?x5 H1=H2 at s1 QK;refine⟨_,rfl,C,xs,k,rfl,QK,O9m,h4,hk0,hk5,fun T as H3 hal R2=>?_⟩;have rT:?w9 H3:=?mO;have p1:=pl (k-1);have p2:=pl k;refine⟨_,rfl,?dN,_,_,_,_,rfl,rT,O9m,O9m,plan,fun kk f l r H4 hF hC k1 k2 g4=>?_⟩;have g14:=?pZ g4;have e:ns=Hu kk f:=ok.same ⟨kk,f,_,l,r,rfl,hF.dg,hF.il,hF.ir,hC⟩;refine⟨_,rfl,nm,_,rfl,?r (?vJ g14 hnm),rfl,_,rfl,?_⟩;refine ?rF
   . rw[qa2,e,Iy];simp
   . exact ?v6 ⟨rfl,g14⟩
 refine Kl fun H2 g2=>?_;intro sq;exact⟨_,rfl,kq nm ns H2 nnm (?e5) (g2 _ _ hnm) ok⟩
noncomputable abbrev Ss:Stmt:=top 87
theorem Hz:?C [?d9,?l1,?d6,?hC,?k4,"_law_first","_law_step",?bQ] ?iR (Av Ss):=Bg
theorem XF[?E](F:Ey K ?cV ?cV Ss f fd)[?D](Ps:Has P w K mg ?e ?nW ["_law_kind",?j7,?l1] 3 (Qt K))(CA:FI P w K mg ?e Aw ?kX 12 ?q1)(Fo:Has P w K mg ?e ?oA [?d9,?bQ] 1 (Sn K))(Jz:Has P w K mg ?e ?rR [?d6,?j7] 1 (Li K))(Ob:Has P w K mg ?e ?qX [?j7,?l1] 2 (iR K))(Gf:Has P w K mg ?e ?gU ?g6 12 (DH K))(K7:Has P w K mg ?e ?h5 ?lL 5 ?pC)[?uQ]:?wX P f:=by
 refine ?w0 Hz;obtain⟨a,ns,rfl,hS,hl,Bq2,kq⟩:=h;have aM:=hr.u8
 refine⟨_,(Ae (?xD ?aE Aj)
  (Ae (?zI ?dF (?xD ?aE Aj))
  (Ae (?vM ?aE (?xL Ps (Aa ?dF (Aa (?z8 (C4 Aj) Aj) ?W))))
  (Ae (Ap (i:=2) ?aE (?xK (An Jz hr (?v8 ?p (?z8 (C4 Aj) Aj)))))
  (Ae (?zI (Bf Cl ?dF ?dF) (?vM ?aE (?xL Ob (Aa (?z8 (C4 Aj) Aj) ?bZ))))
  (Ae (?wC ?aE ?gA)
  (Ae (?xF (?vW En (?zB E9 ?dF)))
  (Ae (?wT ?aE (M0 CA hr ?h T.m_Book (?zE (?yK ?b2))))
  (Ae (?xF (Be (?vH JC aM) ?t ?gA ?H))
  (Ae (?zK (Be (?vH sZ aM) X1 ?t rfl))
  (Ae (?wB ?aE (?zB E9 (Bf Nw ?dF Aj)))
  (Ae (Ci qb9 rfl (?w4 ?bZ) (?z6 6 ?aE) (Ae (Ap (i:=7) ?aE (?zB E9 (Bf Cl ?b7 ?d1)))
  (Ai (?zK (Ii (G6 (?xL K7 (Aa ?a4 (Aa ?hP (Aa (An Im hr (?v8 ?p ?hP)) ?eR))))))))))
  ?bO)))))))))))),?_⟩
 ext K
 refine ?vK [?m,iS 20,none,none,none,none,none,none];ext aL;refine ?v5 (fun σ' H'=>Er fun(most:Int)=>B6 (?xI ?aI none) (?aX) (0<=most) (most<=40))
 . refine⟨_,rfl,a,ns,1,rfl,hS,?q,hl,_,_,rfl,rfl,(?vR 4),rfl,_,rfl,?_⟩;exact ?bB (?yD 40) (?yD 20)
 refine Ad0 fun most hm0 hm1=>?_;intro sq;refine ?v5 (fun σ' H'=>Og fun(p1:Addr) (QH:?dE) (zs:Am)=>Hq (σ'=[?m,?aI,rS p1,none,none,none,none,none]) ?cN (?xR p1 QH) (Reps K H' QH (zs.map tI)) (Cg zs) (zs.length<=40))
 . refine⟨_,rfl,a,ns,0,rfl,hS,?q,hl,_,rfl,_,rfl,_,rfl,a,_,rfl,hS,?cM⟩;have sC:?i H (upd H C (?wD (?c 53))):=?jY;have hcl:=Tr ns ?c7 (?c 53);refine⟨_,rfl,C,Zf ns ?c7 (?c 53),_,most,rfl,?_,O9m,hm0,O9m,fun p1 QH H1 zs hp1 s1 YI r1 hsh hzl=>?_⟩
   . rw[←Tq];exact ?aA
   . exact ?v6 ⟨p1,QH,zs,rfl,?qD s1,YI,r1,hsh,O9m⟩
 refine IF fun p1 QH zs H1 s1 YI r1 Ak3 hzl=>?_;intro sq;have hS1:=s1.seq hS;refine ?v5 (?yZ ?g3)
 . refine⟨_,rfl,_,rfl,_,rfl,_,rfl,a,_,rfl,hS1,fun C2 hC2=>?_⟩;have sC2:?i H1 (upd H1 C2 (?wD ?eS)):=?F hC2;have Ca3:=?pL;refine⟨p1,C2,?lX,zs,rfl,⟨p1,QH,rfl,?vJ sC2 YI,?aT sC2 r1⟩,?_,O9m,O9m,AD Ak3,fun R p o us ys os H' s' hR hp ho EM ho' r' hT=>?_⟩
   . rw[←Tq];exact ?aA
   . obtain⟨l1,l2⟩:=hT.len;refine⟨R,_,_,_,rfl,rfl,.of hR,rfl,?_⟩;exact ?v6 ⟨p,us,ys,rfl,sC2.trans s',EM,r',hT.shape Ak3,O9m⟩
 refine IF fun p2 us2 ys H2 s2 hp2 r2 A58 hyl=>?_;intro sq;have hS2:=s2.seq hS1;refine ?v5 (?yZ ?iM)
 . refine⟨_,rfl,a,ns,0,rfl,hS2,?q,hl,_,rfl,a,ns,1,rfl,hS2,?q,hl,_,_,rfl,rfl,_,_,rfl,rfl,(?vR 2),rfl,_,rfl,?_⟩;refine ?yM ⟨p2,us2,ys,rfl,?dH _,hp2,r2,A58,hyl⟩;refine⟨_,rfl,_,rfl,_,rfl,a,_,rfl,hS2,?cM⟩;have sC:?i H2 (upd H2 C (?wD ?eS)):=?jY;have hcl:=?pL
   have Ca5:(?lX).length<=40:=by
    unfold Zf;rw[qc1,show HT.sIx ?fA 0 ?c7=min 3 ?fA from ?sO _ _ 3,show HT.sIx ?fA ?fA ?eS=min 23 ?fA from ?sO _ _ 23];omega
   refine⟨C,?lX,20,rfl,?_,O9m,fun p us H' xs hp s' EM r' hsh J0=>?_⟩
   . rw[←Tq];exact ?aA
   . exact ?v6 ⟨p,us,xs,rfl,?qD s',EM,r',hsh,O9m⟩
 refine IF fun p us xs H3 s3 hp r hsh J0=>?_;intro sq;have hS3:=s3.seq hS2;have qR:?o0:=?rG
 refine ?v5 (fun σ' H'=>Er fun ?l7=>Fc (?y5 ?l) (?y8 H3) (La H' nb []))
 . exact⟨?cS,fun D hD=>?v6 ⟨D,rfl,?f6,[],Ab,rfl,?r9⟩⟩
 refine Sg fun nb0 H4 s4 A71=>?_;intro sq;have hS4:=s4.seq hS3;refine ?v5 (fun σ' H'=>Jj fun ?l7 (ms:Am)=>B6 (?y5 ?l) (?y8 H4) (La H' nb ms) ((ms=[]\/?r3/\?hX)))
 . refine⟨_,rfl,a,ns,2,rfl,hS4,?q,hl,_,_,rfl,rfl,(?vR 2),rfl,_,rfl,?_⟩;refine ?yM ⟨nb0,[],rfl,?dH _,A71,?bD⟩
   . have GS:=s4;ext uZ
     let Bd5:?aJ:=?v9 (?i H4 G)
     refine Fp (n:=5) Bd5
      ?sK ?_ ?_
     . ext uC
     . ext uR;exact ?v6 ⟨D,ms,rfl,g,?pD,?O ⟨hml,ok⟩⟩
 refine Ac8 fun nb ms H5 s5 hnb hms=>?_;intro sq;have s35:=?j5;have hS5:=s5.seq hS4;refine ?v5 (fun σ' H'=>Og fun(q:Addr) (B:Hp) ?oH=>B6 (?xT q) (Z7 K Aw B q xs ls) (?i H5 B) (?y8 B))
 . refine⟨_,rfl,p,us,rfl,?r (?vJ s35 hp),?cM⟩;have s6:?i H5 (?p3):=?jY;have hC6:upd H5 C ?cQ C=?dB:=Ab;generalize ?p3=H6 at s6 hC6;intro q dx nq uW XH;have s7:?i H6 (upd (upd H6 dx (.own q)) q (?P Aw dx [])):=?fR nq;refine⟨q,dx,C,us,H5,xs,rfl,Ab,s7 _ _ hC6,?aT s35 r,s6.trans s7,hC,s6.free nq,hsh,J0,fun B ls H8 sx bk s5B sBH nB=>?i0⟩;exact ?v6 ⟨q,B,ls,rfl,bk,s5B,sBH⟩
 refine uI fun q B ls H6 bk s5B sB6=>?_;intro sq;have s56:=s5B.trans sB6;refine ?v5 (fun σ' H'=>Jj fun ?l7 (ms:Am)=>Dn (?xT q) (?y8 H6) (La H' nb ms) (?r3) (?hX))
 . have Al1:=hnb.same s56;refine⟨_,rfl,?b8,?gD⟩;have sE:?i H6 (?jL):=?kO;have rE:Rep K (?jL) ?aM (?o []):=⟨E,[],rfl,?aA,rfl⟩
   generalize ?jL=H7 at sE rE;refine⟨nL ms,?o [],(Al1.same sE).rep,rE,?_,_,rfl,?_⟩
   . show deps (ms.map fun n=>L2.D.lst (D9 n))+1<=8;have:=BS ms;omega
   rw[xV];refine ?bB (fun _=>?_) (fun h0=>?_)
   . have GS:=?p1 sE;ext uZ
     let Bd4:?aJ:=?v9 (?nT)
     refine Fp (n:=5) Bd4
      ?sK ?_ ?_
     . ext uC
     . ext uR;exact ?v6 ⟨D,ms,rfl,sE.trans g,?pD,hml,ok⟩
   . have h1:¬ms=[]:=by simpa using h0
     rcases hms with h2|⟨h2,h3⟩
     . exact ?gR h2 h1
     . exact ?v6 ⟨nb,ms,rfl,sE,Al1.same sE,h2,h3⟩
 refine iG fun nb ms H7 s7 A70 hml hok=>?_;intro sq;have hS7:=(s56.trans s7).seq hS5;have rN:Rep K H7 (?d nb) (nL ms):=A70.rep;refine ?v5 (fun σ' H'=>?xT q/\H7=H')
 . refine⟨_,rfl,.non,_,rfl,?r rN,?_,_,rfl,?_⟩
   . have:=BS ms;omega
   refine On ?_ (?fV);rw[?a8 ?a7,XU];decide
 ext aL;refine ?v5 (fun σ' H'=>Er fun(fi:Int)=>Fc (σ'=[?m,?aI,?l,?bG,rS q,iS fi,none,none]) (H7=H') (0<=fi))
 . refine⟨_,rfl,a,ns,2,rfl,hS7,?q,hl,_,_,rfl,rfl,⟨?q,?q⟩,_,_,rfl,rfl,(?vR 4),?_⟩;exact ?v6 ⟨_,rfl,rfl,?q3⟩
 refine mR fun fi YL=>?_;intro sq;have s37:=?p1 s7;have sB7:=sB6.trans s7;refine ?v5 (fun σ' H'=>True)
 . refine ?nO
   let Bd3:?dC:=fun i σ G=>Jj fun o6 o7=>σ=[?m,?aI,?l,?bG,rS q,iS fi,o6,o7]/\?nT
   refine Co (lo:=0) (n:=4) Bd3 ⟨_,_,rfl,?dH _⟩ ?_ ?_
   . rintro i σ G hi Di
     and_intros
     revert σ;refine ON ?_;intro o6 o7 g Fd;have k0:0<=(fi+(0+?V))%4:=?q3;have k4:(fi+(0+?V))%4<4:=qk0 _ ?a7;refine ?v5 (fun σ' H'=>Er fun(kk:Nat)=>Fc (σ'=[?m,?aI,?l,?bG,rS q,iS fi,?xO (0+?V),?xO ?fQ]) (G=H') (kk<4))
     . refine⟨_,rfl,_,rfl,_,_,rfl,rfl,_,_,rfl,rfl,(?vR 4),?_⟩;obtain⟨kk,hkk⟩:=qk3 k0;refine ?v6 ⟨kk,?_,rfl,O9m⟩;rw[←hkk];rfl
     rintro _ _ ⟨kk,rfl,rfl,hkk⟩;obtain⟨ps,hps⟩:∃ps,ls[kk]?=?c ps:=⟨_,qa0 (by have:=bk.n4;omega)⟩
     obtain⟨n1,hn1⟩:∃n1,ms[kk]?=?c n1:=?lR
     obtain⟨n2,hn2⟩:∃n2,ms[kk+1]?=?c n2:=?lR
     have o1:=hok kk n1 hn1;have o2:Nd xs (?fQ+1) n2:=hok (kk+1) n2 hn2;obtain⟨c1,c2⟩:=fP bk.tie hsh hkk hps o1 o2;have sG:=s37.trans g;refine⟨_,rfl,_,rfl,_,rfl,_,rfl,p,xs,?fQ,rfl,⟨p,us,rfl,?vJ sG hp,?aT sG r⟩,O9m,O9m,_,rfl,q,?d nb,?fQ,_,B,xs,ls,ms,ps,n1,n2,rfl,bk,sB7.trans g,O9m,O9m,?x g rN,hps,hn1,hn2,O9m,c2,SJ o2 J0,fun G1 g1=>?f7⟩;ext mU;exact⟨_,_,rfl,?lJ⟩
   . rintro σ G _;exact ?v6 trivial
 rintro _ _ _;exact kq _
universe e9
theorem J3[?fI](h:∀a0,P [a0])[?fJ](hl:?w3 1):P us:=by
 cases us with
 | nil=>ext a5
 | cons a0 u0 =>
   cases u0 with
   | nil=>exact h a0
   | cons _ _=>simp at hl
theorem Dr[?fI](h:∀a0 a1,P [a0,a1])[?fJ](hl:?w3 2):P us:=by
 cases us with
 | nil=>ext a5
 | cons a0 u0 =>
   cases u0 with
   | nil=>ext a5
   | cons a1 u1 =>
     cases u1 with
     | nil=>exact h a0 a1
     | cons _ _=>simp at hl
theorem Hi[?fI](h:∀a0 a1 a2,P [a0,a1,a2])[?fJ](hl:?w3 3):P us:=by
 cases us with
 | nil=>ext a5
 | cons a0 u0 =>
   cases u0 with
   | nil=>ext a5
   | cons a1 u1 =>
     cases u1 with
     | nil=>ext a5
     | cons a2 u2 =>
       cases u2 with
       | nil=>exact h a0 a1 a2
       | cons _ _=>simp at hl
theorem PD[?fI](h:∀a0 a1 a2 a3,P [a0,a1,a2,a3])[?fJ](hl:?w3 4):P us:=by
 cases us with
 | nil=>ext a5
 | cons a0 u0 =>
   cases u0 with
   | nil=>ext a5
   | cons a1 u1 =>
     cases u1 with
     | nil=>ext a5
     | cons a2 u2 =>
       cases u2 with
       | nil=>ext a5
       | cons a3 u3 =>
         cases u3 with
         | nil=>exact h a0 a1 a2 a3
         | cons _ _=>simp at hl
theorem pC[?fI](h:∀a0 a1 a2 a3 a4,P [a0,a1,a2,a3,a4])[?fJ](hl:?w3 5):P us:=by
 cases us with
 | nil=>ext a5
 | cons a0 u0 =>
   cases u0 with
   | nil=>ext a5
   | cons a1 u1 =>
     cases u1 with
     | nil=>ext a5
     | cons a2 u2 =>
       cases u2 with
       | nil=>ext a5
       | cons a3 u3 =>
         cases u3 with
         | nil=>ext a5
         | cons a4 u4 =>
           cases u4 with
           | nil=>exact h a0 a1 a2 a3 a4
           | cons _ _=>simp at hl
set_option maxHeartbeats 4000000 in
noncomputable abbrev nS(K:W.Frag)(s:Str)(a:Addr):Prop:=?tD=?wE ?hK
noncomputable abbrev nN9(K:W.Frag)(s:Str):Prop:=?tD=?a6
noncomputable abbrev kO(K:W.Frag)(a b:Addr)(v:Bool):Prop:=PySem.W.kitOne K ?hK (?d b)=?c v
theorem all_mk{l:PySem.W.OpenLaw}{w:World}{K:W.Frag}{h:Heap}{mg:?kA}{fa:Addr}{Ag:Addr}
 {Ad:Addr}
 {Ah:Addr}
 {Aw:Addr}
 {F9:Addr}{Ye Zv:OAddr}{Xk:Q5}{Yf Ys Zb Xz Py Zg:Value}
 {Hh:Addr}{f9 r6:OAddr}{a9:Q5}{g6 i5 i7 c9 Q0 l8:Value}
 {Je:Addr}{bR cU:OAddr}{BG:Q5}{BR bX CH BK Ts cN:Value}
 {YY:Addr}{Ah2 vR:OAddr}{Af1:Q5}{Ah3 vG VO UR pQ vP:Value}
 {Vg:Tok}
 {Mp:Tok}
 {Qp:Tok}
 {cE:Addr}{SO:Nat}{mV:Q5}{KG kG kF kE KD:Tok}
 {K8:Addr}{Yl:Nat}{V8:Q5}{T9 T8 T7 T6:Tok}
 (X:K.In h) (G:?pH) (hfa:mg ?cV=?c (?d fa))
 (pS:nS K "Lines" Ag)
 (mH:nS K "Stairs" Ad)
 (UB:nS K "Work" Ah)
 (UC:nS K "Book" Aw)
 (HD:?vZ ?tP Rh)
 (U4:?vZ "shared_divisor" Ic)
 (HC:?vZ ?nQ Rg)
 (i9:?vZ ?sU Lz)
 (PK:?vZ "add_at" Xt)
 (tT:?vZ "times" bI)
 (U6:?vZ ?u6 Ie)
 (PJ:?vZ "column" Xr)
 (LV:?vZ "one_row" Uf)
 (tU:?vZ "mixed" BI)
 (cI:?vZ ?qH Nm)
 (pL:?vZ "across" Xu)
 (v4:?I K ?bF ?cD=?wE ?iJ)
 (Yv:?vQ ?kH ?iJ)
 (g9:?dM F9=?c ⟨Yf,Ye,?hB (?h2 ?cD ?oS (I0 Ez) (Gg Ez) (Av Ez) ?g2 Ys Zb Xz Zv Py Zg),Xk⟩)
 (n6:?fN K Py ?oS=true)
 (Qw:?vQ ?bP ?iJ)
 (GZ:?vZ ?oU Rc)
 (i8:?vZ ?rH Ly)
 (Tm:?vZ ?rD Gy)
 (lX:?vZ ?q5 Ui)
 (eV:?vZ ?oA Pc)
 (CK:?vZ "_law_faces_by" Nq)
 (eU:?vZ "_law_word_by" Pa)
 (U7:?vZ ?rR Ig)
 (EU:?vZ ?sW Pb)
 (j6:?vZ "_law_piece_off" L5)
 (U5:?vZ "is_whole_below" Id)
 (ZC:?vZ "plus" FZ)
 (To:?vZ ?pX Gz)
 (Qk:?vZ "is_list_of_wholes" F3)
 (LW:?vZ ?qF Uh)
 (zD:?vZ "ones" gA)
 (CI:?vZ "list_times" Nn)
 (eT:?vZ ?o7 O8)
 (pI:?vZ "turned" Xq)
 (CU:?I K ?bF ?cP=?wE (?d Hh))
 (Qx:?vQ ?kH (?d Hh))
 (BW:?dM Hh=?c ⟨g6,f9,?hB (?h2 ?cP ?tM (I0 Fe) (Gg Fe) (Av Fe) ?g2 i5 i7 c9 r6 Q0 l8),a9⟩)
 (cQ:?fN K Q0 ?tM=true)
 (N5:?vQ ?bP (?d Hh))
 (Wm:Rv K Ad ?cD "Stairs.__init__" Jp)
 (Ze:?vZ "_law_words_with" Kx)
 (j7:?vZ ?qX L6)
 (Qj:?vZ ?oQ F2)
 (j3:?vZ ?u1 L1)
 (HE:?vZ ?nV Ri)
 (lV:?vZ ?qL Ue)
 (HJ:?vZ ?r8 Rm)
 (FE:?I K ?bF ?c6=?wE (?d Je))
 (Tb:?vQ ?kH (?d Je))
 (EK:?dM Je=?c ⟨BR,bR,?hB (?h2 ?c6 ?u3 (I0 Fs) (Gg Fs) (Av Fs) ?g2 bX CH BK cU Ts cN),BG⟩)
 (eZ:?fN K Ts ?u3=true)
 (Pp:?vQ ?bP (?d Je))
 (j4:Rv K Ah ?cD "Work.__init__" L3)
 (HB:?vZ ?nE Rf)
 (CJ:?vZ ?nW Np)
 (zE:?vZ ?iS GA)
 (lW:?vZ ?hE Ug)
 (Qm:Rv K Ad ?k8 ?qT F5)
 (cJ:Rv K Ah ?k5 ?sA No)
 (HA:?vZ ?gX Re)
 (cL:Rv K Aw ?j4 ?oD Nr)
 (j8:Rv K Aw ?jO ?rT L7)
 (HG:?vZ ?hI Rk)
 (Zc:?vZ ?i7 Kv)
 (j5:Rv K Ad ?j1 ?pO L4)
 (Wk:Rv K Ad ?j8 ?oB Jn)
 (Ql:Rv K Ah ?jQ ?rQ F4)
 (Wn:?vZ ?h5 Jq)
 (Mi:?vZ ?fZ Es)
 (HF:?vZ ?gC Rj)
 (Wl:Rv K Ad ?mI ?tI Jo)
 (pK:?vZ ?hU Xs)
 (lU:?vZ ?iE Ud)
 (Zd:?vZ ?hA Kw)
 (ET:Rv K Ah ?kL ?qS O9)
 (Tp:Rv K Ah ?m8 ?oP G0)
 (HH:?vZ ?hN Rl)
 (zB:?vZ ?fP fZ)
 (HK:?vZ ?hQ Rn)
 (j9:Rv K Aw ?cD ?sB L8)
 (U8:?vZ ?gU Ih)
 (Bd0:nS K ?cV YY)
 (A35:?dM YY=?c ⟨Ah3,Ah2,?hB (?tC),Af1⟩)
 (Bc6:?fN K pQ ?cV=true)
 (A41:?vQ ?bP (?d YY))
 (Z2:?I K ?cH ?cP=?wE (?d Hh))
 (v3:?I K ?cH ?c6=?wE (?d Je))
 (LF:PySem.W.readsIn K Ag (.type "type")=true)
 (LH:PySem.W.findCls K ?bF (.type "type") ?cD=?c (.val ?iJ))
 (lH:PySem.W.specialIn K ?bF "__getattribute__"=?wE (?sR "type.__getattribute__"))
 (oE:?vQ ?hD Ag)
 (OP:?vQ ?bP ?bF)
 (KZ:?vQ ?hD Ad)
 (lF:?vQ ?bP ?cH)
 (SQ:?vQ ?hD Ah)
 (tD:?vQ ?bP ?cT)
 (SR:?vQ ?hD Aw)
 (tE:?vQ ?bP ?eB)
 (NI:?wL Ag)
 (OU:?vQ ?hH Ag)
 (NG:?vQ ?h7 Ag)
 (MZ:?yH ?bF)
 (qw8:?vU ?bF ?kP)
 (qw9:?vU ?bF ?lY)
 (kR:?wL Ad)
 (lM:?vQ ?hH Ad)
 (kQ:?vQ ?h7 Ad)
 (kM:?yH ?cH)
 (qx0:?vU ?cH ?kP)
 (qx1:?vU ?cH ?lY)
 (qx2:?vU ?cH "starts")
 (RT:?wL Ah)
 (TL:?vQ ?hH Ah)
 (RN:?vQ ?h7 Ah)
 (RA:?yH ?cT)
 (qx3:?vU ?cT ?Z)
 (qx4:?vU ?cT ?aN)
 (qx5:?vU ?cT ?d0)
 (qx6:?vU ?cT ?eT)
 (qx7:?vU ?cT ?qG)
 (RU:?wL Aw)
 (tM:?vQ ?hH Aw)
 (rO:?vQ ?h7 Aw)
 (rC:?yH ?eB)
 (qx8:?vU ?eB ?dA)
 (qx9:?vU ?eB ?u8)
 (qy0:?vU ?eB ?g0)
 (uC:nS K "GAPS" cE)
 (SY:?dM cE=?c ⟨.type ?gP,?j,.seq #[?f 32 KG,?f 16 kG,?f 8 kF,?f 4 kE,?f 2 KD] SO,mV⟩)
 (Z1:nS K "FACE_COUNTS" K8)
 (Yo:?dM K8=?c ⟨.type ?gP,?j,.seq #[?f 0 T9,?f 2 T8,?f 3 T7,?f 4 T6] Yl,V8⟩)
 (cR:?yY "MOST_ROWS" (?f 40 Vg))
 (MG:?yY "LEVELS" (?f 4 Mp))
 (Zu:?yY "MOST_PIECES" (?f 40 Qp))
 (BC:?wY "isinstance")
 (Ab4:?wY "int")
 (WD:?wY "bool")
 (QO:?wY ?gP)
 (Ab0:?wY "zip")
 (Ab2:?wY "max")
 (Ab3:?wY "len")
 (Ab6:?wY "all")
 (qP:?wY "range")
 (wD:?wY "dict")
 (Ab5:?wY "any")
 (WC:?wY ?kK)
 (cY:?wY "enumerate")
 (Ab1:?wY "min") :
 ∃fd:FuncData,(∀(s:Shared) (v:Value),BindsTo s fd ⟨[v],[]⟩ [(?d9,v)])/\∀base:Heap,K.In ?e->?o8->?wX ?aY fa:=by
 have e:=hfa.symm.trans (?wG Bd0);cases e;have T:?rM:=⟨?wG pS,⟨NI,OU,NG,MZ⟩,qw8,qw9,?wG mH,⟨kR,lM,kQ,kM⟩,qx0,qx1,qx2,?wG UB,⟨RT,TL,RN,RA⟩,qx3,qx4,qx5,qx6,qx7,?wG UC,⟨RU,tM,rO,rC⟩,qx8,qx9,qy0,⟨cE,?wG uC,fun H=>?O ⟨_,_,_,SY,rfl,rfl,rfl,(?wZ 5),?eK ?aO (?rL)⟩⟩,⟨K8,?wG Z1,fun H=>?O ⟨_,_,_,Yo,rfl,rfl,rfl,(?wZ 4),?rL⟩⟩,⟨_,?wG cR⟩,⟨_,?wG MG⟩,⟨_,?wG Zu⟩,?vY BC,?vY Ab4,?vY WD,?vY QO,?vY Ab0,?vY Ab2,?vY Ab3,?vY Ab6,?vY qP,?vY wD,?vY Ab5,?vY WC,?vY cY,?vY Ab1⟩
 have Jb:=cD (st:=Ez) g9 n6 Qw;have Kh:=cD (st:=Fe) BW cQ N5;have Lw:=cD (st:=Fs) EK eZ Pp;have Bi3:=cD (st:=Ss) A35 Bc6 A41;refine⟨?tC,fun s v=>.of_eq rfl,fun base _ _=>?_⟩;have uu:=@Bq ?aY w K mg ?e h X G;have uv:=@Iz ?aY w K mg ?e;have Fv:=?vF HD DX;have Ge:=?vD U4 S0;have Fu:=?vF HC dX;have N9:=?vD i9 X6;have Qb:=uu PK (fun F=>KU F T) ?X;have GR:=?vD tT NT;have Jy:=?vF U6 S4;have cC:=?vD PJ kT;have Y1:=?vD LV gF;have Il:=?xX tU (fun F=>nU F T);have Pq:=?vD cI d6;have Wx:=?vF pL kW;have Y0:ZM ?aY w K mg ?e Ag ?cD ?eI 1 (?vA Mr):=⟨_,_,⟨LF,LH,lH,Qw⟩,?rP,Om Jb T⟩
 have K5:?yG ?aY:=⟨_,_,⟨oE,v4,Yv,OP⟩,?rP,Om Jb T⟩
 have M5:=?vF GZ DV;have N8:=?vF i8 X5;have Ik:=?vF Tm Rs;have Y3:=?vF lX GH;have Fo:=?vD eV BQ;have Gq:=?vD CK f7;have Rx:=uu eU (fun F=>BP F T) ?X;have Jz:=?vD U7 S5;have Im:=?vD EU bQ;have Oa:=?vD j6 Ya;have Ej:=?yC U5 (?vB S3 Fv);have OW:=?yC ZC (?vB sD Qb);have Bt:=?yC To (?vB Rt Fu);have Gk:=?yC Qk (?vB Pg Fv);have C5:=?yC LW (?vB GG cC);have Qy:=uu zD (?vB SD Y1) ?a2;have Pr:=uu CI (?vB d8 Il) ?X;have Rw:=uu eT (?vB bO Qb) ?X;have Te:=?yC pI (?vB KS Il);have Me:?wV Ag:=(?yW CU)
 have Jx:?wV Ad:=(?yW Z2)
 have Uv:=CB KZ lF (P:=l.prog) (w:=w) (base:=base) Wm (?vB Ul Y0) ?X;have Mh:=uu Ze (?vB We Gq) ?X;have Ob:=?yC j7 (?vB Yb Oa);have C9:=uu Qj (fun F=>Pf F T Ej Fu) ?X;have Dw:=?yC j3 (?vB X7 Ej);have Uy:=?yC HE (?vB dY Gk);have K6:=uu lV (?vB gE Pr) ?X;have M6:=uu HJ (?vB EA Bt) ?X;have Kf:?wW Ag:=(?xB FE)
 have Cw:?wW Ad:=(?xB v3)
 have cA:=CB SQ tD (P:=l.prog) (w:=w) (base:=base) j4 (fun F=>X8 F T K5 Qy) ?X;have Ux:=?yC HB (fun F=>DW F T OW GR);have Ps:=uu CJ (fun F=>f6 F T Mh Rx Gq) ?X;have oX:=?yC zE (fun F=>SE F T Fu N9 C9);have Y2:=?xX lW (fun F=>GF F T C9 Fv);have Cm:=uv Qm (?vB Pi Cw) ?X;have Ke:=uv cJ (fun F=>e9 F T Kf Me) ?X;have Uw:=uu HA (fun F=>dW F T K6 C5 Bt M6) (?vI pC (fun _ _ _ _ _=>rfl));have N7:=uv cL (?vB f8 Dw) ?y;have Mf:=uv j8 (?vB Yc Dw) ?y;have U0:=uu HG (?vB dZ Y2) ?X;have Mg:=uu Zc (?vB Wc oX) ?a2;have Md:=uv j5 (fun F=>X9 F T Cm Cw Jx) ?X;have Jv:=uv Wk (?vB Uj Cm) ?a2;have F6:=uv Ql (?vB Ph Ke) ?a2;have K7:=?xX Wn (fun F=>Um F T N7 Mf Y3);have E4:=uu Mi (?vB Ld U0) ?X;have Uz:=uu HF (fun F=>DY F T Jy Mg) ?a2;have Jw:=uv Wl (fun F=>Uk F T M5 Cw Md) ?y;have CC:=?yC pK (fun F=>kU F T E4 Rw);have Tf:=uu lU (fun F=>GD F T Uv K5 Jw Jv) ?X;have Et:=?yC Zd (fun F=>Wd F T Dw Bt C5 Pq CC);have Lp:=uv ET (fun F=>bP F T Tf C5) ?a2;have Hg:=uv Tp (fun F=>Ru F T Lp N8) ?a2;have Fw:=?yC HH (fun F=>DZ F T cA Hg F6 C5 Uy);have oW:=?yC zB (?vB SA Fw);have U1:=uu HK (fun F=>EB F T Qy Fw Bt K6 Uw C5 Et) ?a2;have CA:=CB SR tE (P:=l.prog) (w:=w) (base:=base) j9 (fun F=>Yd F T U1 Ux Uz Ik) ?y;have Gf:=?yC U8 (fun F=>S6 F T Im Fw oW Et);exact XF Bi3 T Ps CA Fo Jz Ob Gf K7 Im
theorem walk{l:PySem.W.OpenLaw}{q:Program}{loose:?bU Str}{XP:(?kA)->?t8}{YP:World->?t8}{d:DefRec}{K:Params->PySem.W.Frag}(hn:l.most=?c 63)(hdf:d.params.defaults=[])
 (hY:∀(w:World) (h:Heap),YP w h->?k3 h)
 (F:∀(w:World) (mg:?kA) (fa:Addr) (h:Heap),?k3 h->?pH->mg d.name=?c (?d fa) →
   ∃fd:FuncData,(∀(s:Shared) (u:Value),BindsTo s fd ⟨[u],[]⟩ [(?d9,u)])/\∀base:Heap,?k3 ?e->?o8->Bx ?aY w (K w.params) mg ?e Eu 14 fa fd ?iR (Ws (K w.params))) :
 PySem.W.WalkO q loose XP YP l.row.toRowW d [] (fun f vs=>PySem.call f vs) :=
 L2.walk_ofB (n:=63) (k:=14) (x:=?d9) (CX:=fun _=>Eu) (sp:=fun w=>Ws (K w.params)) hn ?a7 hdf ⟨rfl,?q,?q,rfl⟩ hY F (fun _ _ a ns hl YN _ hS=>⟨a,ns,rfl,hS,hl,YN,?tB⟩) fun _ _ _ _ _ z=>z
universe Hb
end
structure PySem.W.Fast:Prop where(tw12255184398958377498 tw1601976170593959659 tw2298393043734434914 tw6665319877211835975 tw8840804153780815890 tw1702222165270578590 tw7784435791176951058 tw6176251702052683083 tw16080005996798623005 tw14529144126556592910 tw5398519269789010416 tw11069886049546887068 tw5676373262285358239 tw14975786103437639966 tw18428087863852386014 tw11833496890210383895 tw5635674819685980762 tw13347339224034684741 tw7107006038983461541 tw1581307336662858814 tw616061047975358782 tw1021406844687587167 tw13067992071064813205 tw9431672105401082670 tw13038129527496911807 tw6020554761598360242 tw13668535527102669970 tw3147832174055659077 tw9674653158272972686 tw14713724350985092240 tw15587618022270155117 tw63793835837211873 tw893181088034541767 tw15924789563630319464 tw12575680618409266357 tw17147710799542323259 tw2451535364274420981 tw3373855482183904776 tw13870848682540415026 tw14153946534816465061 tw269637453459388045 tw13584048284089494660 tw312631544350034310 tw11323066755669890760 tw15063091578475587639 tw12532514199418945846 tw14136816179371054450 tw2139620352710266235 tw9983385175016123897 tw13278664401368477747 tw147868812654688526 tw3156631575405081698 tw16875727107049526810 tw9751051855593622389 tw14876342864466747409 tw6179454408375514496 tw15057346514631591944 tw14460971913981209262 tw1889114370183103958 tw6486355166194774135 tw9856492878945958651 tw16895924450650014345 tw557726481264327854 tw16737949275836437488 tw18118149639028368505 tw110808388271106595 tw13385330620884447739 tw5613146648106045179 tw11436649482684476705 tw4616567964659282527 tw7611257386575645948 tw4653981413598553007 tw16162529161803533466 tw2674447243248578173 tw8544377338459664624 tw2265626468643392834 tw20157420301105117 tw8495814662803461539 tw1180321676650164976 tw8174374559709794201 tw14367519298842471455 tw8427290328887219619 tw11113685228128261503 tw10601962499915315658 tw585669449325403112 tw1472417003643187014 tw4322479423420345832 tw13701964489823739473 tw1277747284202246068 tw13227970275504301433 tw15265940111455395989 tw13523905803678298755 tw13949069269535260433 tw17108367378966487078 tw3005510414510274591 tw5003315699557871270 tw1519993089069979226 tw16948470599514195033 tw13437749596111962300 tw3865489320389739715 tw2943760182003650003 tw5443944633358324651 tw17353670402350124752 tw15828703241788307175 tw16442557054159096194 tw4933989069858097740 tw1348062382327508179 tw14394336695332273850 tw5685909918816138580 tw112492906751695852 tw8452204759175680717 tw17019825723001745687 tw5346144699365217704 tw12911048565160022184 tw3877421308976435602 tw13787220335234953513 tw8386913253484483143 tw1867123709949119186 tw8155465709079733906 tw5439380534826594993 tw6163721884454411851 tw3484018795375811849 tw2301487406900737073 tw10888477213694065572 tw8831368826474772186 tw9979067603282462765 tw8012863110709275003 tw5059643860126022815 tw17149885996830974704 tw12351818674875955028 tw11602072833250317612 tw7519633686236436605 tw578521470430318441 tw13525700980951461510 tw9087012230349440805 tw7518375808762415833 tw3417007318000090025 tw10928727323537752560 tw3534609640131296973 tw13360602057977062631 tw6053072073469115100 tw9048256445633809718 tw3538494390911088115 tw17187627896739480870 tw4602446191993405244 tw5387121179840429655 tw5029231029630938249 tw17127801252944715354 tw10303312679186570470 tw6181647070167350280 tw9202088094119290624 tw1266442370374781935 tw6359403406510253067 tw7779324495630156552 tw12981323398363258702 tw7184336840163923887 tw12207984940473724037 tw18356508612429695137 tw10996533372965322959 tw752614446384410677 tw10786899879906874106 tw14616595925908108559 tw6347202607686139806 tw721569456994514416 tw3934599461245069589 tw9631849573891644794 tw8357862244623592948 tw7777523372666029106 tw15493084142641079505 tw7822631599515436579 tw16817403807412210493 tw4432176748809371786 tw11482782070769161398 tw14740490526047502227 tw8740652184753229566 tw7570851772235262028 tw4487693440026140085 tw234123993798524057 tw2148423767399797967 tw16361682710192706807 tw2666013143346126153 tw1058217145142851364 tw2139073678178115650 tw2879290418271482421 tw5065201788750107286 tw3371325242994293390 tw4198542793427257578 tw2370526779169251399 tw14371423229084183372 tw7879788438033068359 tw15110672998640379223 tw7202180589991422338 tw11893679567141783739 tw14197923051829003005 tw15683525079056940036 tw9701249763648067365 tw3612992032271385002 tw7832441229084632727 tw15314189323023946096 tw426307754078598540 tw17771345143214119553 tw5035460749577852672 tw12083777660481489998 tw8653383270723582481 tw12022702867713909711 tw12044450542638285533 tw4078455709678993143 tw15696628048883875693 tw7595074858395800780 tw13850109052058558156 tw16137571940065286626 tw12562101120425992004 tw651825715490776823 tw9000602586119716372 tw4042582963262816752 tw7104533707053758970 tw4921110021921207036 tw10789474203107939462 tw17345527915391954260 tw16855089098664693486 tw9039340476469553932 tw16789133438743664321 tw11322050545729407683 tw11600688113790944971 tw8877203999441548915 tw12913197764251704700 tw9504782730847548857 tw10626524848724783388 tw4657909749058348663 tw9959542862765741714 tw3732887708376385312 tw3062601601800817386 tw4474119444764464353 tw2255759435180278928 tw12986202116162718887 tw16139355230235122785 tw16732697335816671327 tw13445822130185585983 tw10646962493042445320 tw16677585698784604026 tw500195677307141860 tw5571687488311254371 tw6354871896678253488 tw7225783028588402172 tw4261512510960219275 tw3108317397666747676 tw2407069725763185599 tw3603440683471553816 tw3286352256490530470 tw17119994720698135765 tw14798664512719844445 tw6431517574305027134 tw1652433504739373847 tw16036687741108362758 tw16875084683260443646 tw6689078891200879634 tw10284231672762882324 tw5902995675671160473 tw3631813437089065980 tw1293903387800219028 tw10580175058713297180 tw14690991432104055123 tw5928693429840136788 tw10538855233255897888 tw5447989227519782313 tw9898540841111764875 tw8223181791717862190 tw10776344095365015398 tw18345675980855854737 tw3953149296745144410 tw2802949736526885086 tw7946085834309519464 tw14812854501203846346 tw6953421400614633256 tw13709461638016747497 tw5957310751845522012 tw12418215593029626624 tw10287653925624866225 tw12990438149241012138 tw5358249506555916206 tw9328885665024962081 tw14809853786629517302 tw11760006849493496837 tw14111912751939516834 tw7133925709630133424 tw760502620118453621 tw9136794136144740853 tw1168887903066138577 tw9492494123948675762 tw4454726863319058876 tw8496236196560456395 tw2982827372790247095 tw18180766785062856518 tw240117563767075887 tw15224311111093144703 tw6523373202989088335 tw14174620702771100572 tw10273413904093934157 tw4317252511376373751 tw11258580723470173863 tw7569988412444803272 tw16757535965024301172 tw14053594552022320017 tw2954699883298185340 tw4820217890008192383 tw7895118896462712680 tw5075558804364980882 tw14524904747974855726 tw1237685712946843793 tw12851257951241289190 tw1566210333739634574 tw10733299534681896751 tw1416406613015802930 tw18435150763403691150 tw6851840847729914807 tw13376230184761363249 tw9710945391622274388 tw1239271914034752379 tw4364908200678802008 tw2498580321395292588 tw1164131586556493567 tw419136575569206511 tw7497311318487603166 tw5961121787494934630 tw2262319013695363676 tw4322831300637652286 tw14638514940821773431 tw16682806759336767244 tw7463894811350963916 tw7501452112880753317 tw967496407993613624 tw11038803417687179049 tw3392319969133331 tw5154573847588120114 tw2024650094712129933 tw11861298649453037045 tw15727372161347021482 tw9686860437826622035 tw16825009834183476711 tw10075372338738376645 tw16121863164504076437 tw12961179917838251931 tw14290427444979527886 tw15230456856473035562 tw11846299600378839965 tw18403846099804077344 tw18177044917754960042 tw7930481616216827016 tw11380923646653391535 tw17829657470419340843 tw14757529689630949899 tw7932912993735078593 tw1844688551299875449 tw9324789804887618391 tw17951161834540340196 tw4191771668307369889 tw16216790222209567743 tw7736223401683763320 tw742782178228296568 tw11418496312835590708 tw9394722333557954543 tw12113893180689384095 tw6149638669279463196 tw13663428568970540519 tw8909259329376860610 tw357247338328066788 tw16617651482616195772 tw971013549729494909 tw9263646896908326728 tw15370796581018548677 tw11822329897266737985 tw7930058500247383467 tw9266684744843903199 tw13817749569081349726 tw14041536757067916098 tw190511881317185879 tw15278459957512901890 tw18348587391636477664 tw8880099397444538483 tw6907463286991469953 tw17949051515318372874 tw2574141953477825624 tw11676248102270127558 tw8565084606777102998 tw9817638252303182230 tw15739363030270584175 tw12287786119717481500 tw13823540560275641624 tw8615372514374913227 tw654253866397151721 tw9403150080662281296 tw8791231844770836821 tw6829180333552382304 tw488437714025730177 tw13424334609157223823 tw11902449313965365216 tw4410279827028403226 tw10085579639632973778 tw1577262306740246898 tw6348202986444615186 tw3073380445886322034 tw7340064000765297312 tw1174879138509513388 tw14843550298274489888 tw8709672716359128377 tw5842478978630028898 tw8745095903611928903 tw15155451752291298295 tw3195220540949468098 tw11926293810682981287 tw16880770627494122458 tw10236908445409600294 tw8524559837569534572 tw13164821808268772305 tw711573938435705277 tw17713534882786310892 tw3085445130855277589 tw2231770133078375874 tw16217505493357577782 tw6205639851119654051:True)
open PySem PySem.W PyProof.Rows
set_option maxRecDepth 100000 in
set_option maxHeartbeats 0 in
theorem PySem.Challenge.cw_holebook_k84_whole_counts_by_tables_holds : PySem.Challenge.rw_holebook_k84_whole_counts_by_tables.Holds := by
 w_on;o_law;k_head;(case hw=>w_witness2)
 k_fill
 refine Hb.walk (l:=PySem.Challenge.rw_holebook_k84_whole_counts_by_tables) rfl rfl (fun w h Y=>PySem.W.kIn_of Y) ?F
 case F =>
  intro w mg fa h KX G hmg
  refine' Hb.all_mk KX G hmg ..
  all_goals try delta Hb.nS Hb.nN9 Hb.kO
  all_goals try first | exact⟨_,_,by k_is,⟨⟨_,_,_,_,_,_,_,_,_,rfl,by k_is,by k_is⟩,by k_is⟩⟩ | exact⟨_,_,by k_is,by k_is,⟨⟨_,_,_,_,_,_,_,_,_,rfl,by k_is,by k_is⟩,by k_is⟩⟩ | k_is | kit_is | kts_isx | k_exc | k_qdec | kernel_rfl | decide +kernel
