"""Chains: steps one after the other, how they lead rows, and how they are undone."""

from windowkin.codes import Code, compose
from windowkin.errors import InvalidStep, LimitExceeded
from windowkin.rows import check_row, normal_row

MAX_STEPS = 60


def chain_graphs(graph, chain):
    """The graphs along a chain: the first one, and the one that each step makes."""
    if len(chain) > MAX_STEPS:
        raise LimitExceeded(MAX_STEPS)
    graphs = [graph]
    for step in chain:
        graphs.append(step.result(graphs[-1]))
    return graphs


def chain_result(graph, chain):
    """The last graph."""
    return chain_graphs(graph, chain)[-1]


def forward_codes(graphs, chain):
    """The forward codes of the steps, first the one that leads from the first graph."""
    return [step.forward(before) for before, step in zip(graphs, chain)]


def back_codes(graphs, chain):
    """The back codes of the steps, first the one that leads from the last graph."""
    return [step.back(before) for before, step in reversed(list(zip(graphs, chain)))]


def led_along(codes, row):
    """The row to which codes lead a row one after the other."""
    led = normal_row(row)
    for code in codes:
        led = code.lead(led)
    return led


def lead_through(graph, chain, row):
    """The row of the last graph to which the forward codes lead a row."""
    graphs = chain_graphs(graph, chain)
    check_row(graph, row)
    return led_along(forward_codes(graphs, chain), row)


def lead_back(graph, chain, row):
    """The row of the graph to which the back codes lead a row of the last graph."""
    graphs = chain_graphs(graph, chain)
    check_row(graphs[-1], row)
    return led_along(back_codes(graphs, chain), row)


def undone_chain(graph, chain):
    """The list of the steps from the last graph back to the graph."""
    graphs = chain_graphs(graph, chain)
    steps = []
    for before, step in reversed(list(zip(graphs, chain))):
        steps.extend(step.undone(before))
    return steps


def chain_code(graph, chain, *, back=False):
    """The composed forward codes, or the composed back codes."""
    graphs = chain_graphs(graph, chain)
    # the identity changes nothing, not even a width, and is all there is for an empty chain
    start = Code.identity(graphs[-1] if back else graph)
    codes = back_codes(graphs, chain) if back else forward_codes(graphs, chain)
    return compose(start, *codes)


def graph_reached(graph, chain):
    """The last graph, or None if a list of steps is no chain for the graph."""
    try:
        return chain_result(graph, chain)
    except (InvalidStep, LimitExceeded):
        return None


def leads_to(one, other, chain):
    """Whether a list of steps is a chain for the graph one with the last graph other."""
    return graph_reached(one, chain) == other
