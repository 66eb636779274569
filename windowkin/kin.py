"""Kin graphs: whether some code with an inverse leads the rows of one graph to those of another one, and why."""

from windowkin.chains import graph_reached, leads_to, undone_chain
from windowkin.least import find_renaming, least, merge_pairs
from windowkin.steps import Merge


def compare(one, other):
    """("kin", chain) with a chain from one to other, or ("apart", first, second) with chains to least graphs."""
    first, small = least(one)
    second, wanted = least(other)
    renaming = find_renaming(small, wanted)
    if renaming is None:
        return ("apart", first, second)
    renamed = [] if small == wanted else [renaming]
    return ("kin", first + renamed + undone_chain(other, second))


def least_reached(graph, chain):
    """The last graph of a chain of merges if it is least; None if it is not, or if the list is no such chain."""
    if not all([isinstance(step, Merge) for step in chain]):
        return None
    small = graph_reached(graph, chain)
    if small is None or len(merge_pairs(small)) > 0:
        return None
    return small


def show_apart(one, other, first, second):
    """Whether two chains of merges lead two graphs to least graphs that no renaming leads to each other."""
    small = least_reached(one, first)
    other_small = least_reached(other, second)
    if small is None or other_small is None:
        return False
    return find_renaming(small, other_small) is None


def check_comparison(one, other, claimed):
    """Whether a tuple of one of the two shapes is a result that compare may return."""
    word, *chains = claimed
    if len(chains) == 1:
        return word == "kin" and leads_to(one, other, chains[0])
    return word == "apart" and len(chains) == 2 and show_apart(one, other, chains[0], chains[1])


def are_kin(one, other):
    """Whether two graphs are kin."""
    return find_renaming(least(one)[1], least(other)[1]) is not None
