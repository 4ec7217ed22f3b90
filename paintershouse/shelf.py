"""A shelf for pieces that are asked for: the least work, plans, and prices that show it."""

from paintershouse.errors import NotAllowed

MAX_ASKS = 60
MAX_PIECE = 99
MAX_PLACES = 8
MAX_COST = 9999


def _check_shelf(asks, costs, places):
    """Raises NotAllowed if there are no such asks, or costs, or places."""
    if len(asks) > MAX_ASKS:
        raise NotAllowed("too many asks")
    for piece in asks:
        if not 0 <= piece <= MAX_PIECE:
            raise NotAllowed("not a piece")
    if len(costs) != len(asks):
        raise NotAllowed("not a cost for each ask")
    known = {}
    for piece, cost in zip(asks, costs):
        if not 0 <= cost <= MAX_COST or known.setdefault(piece, cost) != cost:
            raise NotAllowed("not the cost of a piece")
    if not 1 <= places <= MAX_PLACES:
        raise NotAllowed("not a number of places")


def _stays(asks):
    """Returns the list of all stays: pairs of an ask and the next ask of the same piece."""
    last = {}
    found = []
    for at, piece in enumerate(asks):
        if piece in last:
            found.append((last[piece], at))
        last[piece] = at
    return sorted(found)


def _check_plan(asks, places, plan):
    """Raises NotAllowed if a plan is not possible."""
    if len(plan) != len(asks):
        raise NotAllowed("a plan for other asks")
    running = [0] * len(asks)
    ends = {first: second for first, second in _stays(asks)}
    for at, choice in enumerate(plan):
        if choice == 0:
            continue
        if choice != 1 or at not in ends:
            raise NotAllowed("not a stay up to a next ask")
        for between in range(at + 1, ends[at]):
            running[between] += 1
            if running[between] > places - 1:
                raise NotAllowed("more pieces than places")


def _arcs(asks, costs):
    """Returns a list of arcs `(tail, head, cost, roomy)`: a place goes along them from node 0 to the last node.

    On the roomy arc k, from the node k to the next one, a place is free at the
    ask k; on a stay's arc, over all asks between, it holds the piece.
    """
    arcs = [(at, at + 1, 0, True) for at in range(len(asks))]
    for first, second in _stays(asks):
        if second > first + 1:
            arcs.append((first + 1, second, -costs[first], False))
    return arcs


def _routes(many, arcs, flows):
    """Returns the least ways from node 0 to all nodes, and for each node a step `(arc, change)` by which it is reached.

    A flow on an arc can also be taken back, from its head to its tail.
    """
    steps = []
    for k, (tail, head, cost, roomy) in enumerate(arcs):
        if roomy or flows[k] == 0:
            steps.append((tail, head, cost, k, 1))
        if flows[k] > 0:
            steps.append((head, tail, -cost, k, -1))
    # No way is longer than all costs together, so this is further than all nodes.
    far = 1 + sum([abs(cost) for _, _, cost, _ in arcs])
    ways = [0] + [far] * many
    reached_by = [(-1, 0)] * (many + 1)
    changed = True
    while changed:
        changed = False
        for start, end, cost, k, change in steps:
            if ways[start] < far and ways[start] + cost < ways[end]:
                ways[end] = ways[start] + cost
                reached_by[end] = (k, change)
                changed = True
    return ways, reached_by


def _least_flow(asks, costs, places):
    """Returns the arcs, and on each one the flow of all places but one, by which most is gained."""
    arcs = _arcs(asks, costs)
    flows = [0] * len(arcs)
    for _ in range(places - 1):
        _, reached_by = _routes(len(asks), arcs, flows)
        node = len(asks)
        while node > 0:
            k, change = reached_by[node]
            flows[k] += change
            tail, head, _, _ = arcs[k]
            node = tail if change == 1 else head
    return arcs, flows


def least_work(asks, costs, places):
    """Returns the least sum of costs with which all asks are answered."""
    return plan_work(asks, costs, places, best_plan(asks, costs, places))


def best_plan(asks, costs, places):
    """Returns a plan with the least work."""
    _check_shelf(asks, costs, places)
    arcs, flows = _least_flow(asks, costs, places)
    plan = [0] * len(asks)
    for (tail, _, _, roomy), flow in zip(arcs, flows):
        if not roomy and flow == 1:
            plan[tail - 1] = 1
    for first, second in _stays(asks):
        # With no ask between, a piece stays where it is anyway.
        if second == first + 1:
            plan[first] = 1
    return tuple(plan)


def best_prices(asks, costs, places):
    """Returns prices whose bound is the least work."""
    _check_shelf(asks, costs, places)
    arcs, flows = _least_flow(asks, costs, places)
    ways, _ = _routes(len(asks), arcs, flows)
    # What one more place would be worth at an ask is how much shorter the way becomes there.
    return tuple([ways[at] - ways[at + 1] for at in range(len(asks))])


def plan_work(asks, costs, places, plan):
    """Returns the work of a plan that is possible."""
    _check_shelf(asks, costs, places)
    _check_plan(asks, places, plan)
    return sum(costs) - sum([cost for cost, choice in zip(costs, plan) if choice == 1])


def bound_of(asks, costs, places, prices):
    """Returns the bound of prices: no plan that is possible has less work."""
    _check_shelf(asks, costs, places)
    if len(prices) != len(asks):
        raise NotAllowed("not a price for each ask")
    for price in prices:
        if price < 0:
            raise NotAllowed("a price below 0")
    rests = [max(0, costs[first] - sum(prices[first + 1:second])) for first, second in _stays(asks)]
    return sum(costs) - sum(rests) - (places - 1) * sum(prices)
