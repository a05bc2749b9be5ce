"""Nets that are put together by plans."""

from termstream.nets import Net
from termstream.plans import need_plan
from termstream.sources import Fed, Row, Ruled
from termstream.surds import Surd


def put_row(net, row):
    """Puts into the net what a row of a plan tells."""
    word, name, *rest = row
    if word == "row":
        manner, terms = rest
        net.put(name, Row(terms, manner))
    elif word == "ruled":
        manner, terms, round_terms, steps = rest
        net.put(name, Ruled(terms, round_terms, steps, manner))
    elif word == "fed":
        net.put(name, Fed(rest[0]))
    elif word == "surd":
        p, d, q = rest
        net.put_surd(name, Surd(p, d, q))
    elif word == "one":
        source, manner, most, rows = rest
        net.put_one(name, source, rows, manner, most)
    elif word == "two":
        one, other, manner, most, rows = rest
        net.put_two(name, one, other, rows, manner, most)
    else:
        source, most = rest
        net.put_root(name, source, most)


def net_of(plan):
    """A new net, into which the rows of the plan are put one by one."""
    need_plan(plan)
    net = Net()
    for row in plan:
        put_row(net, row)
    return net
