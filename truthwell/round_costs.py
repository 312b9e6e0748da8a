"""The least costs of rounds: of situations, and of clouds from which a round may go on."""


class RoundCosts:
    """What at most 0, 1, .. rounds cost at least; None for never.

    costs has for each number of rounds the costs of the situations of a sky; of_clouds, from one round on,
    those of its clouds from which the round may go on, or end there. The last ones hold for all greater
    numbers: behind the told number of rounds, or where one more makes nothing cheaper, none are looked at.
    """

    def __init__(self, sky, rounds):
        self.sky = sky
        self.costs = [[0 if is_settled else None for is_settled in sky.settled]]
        self.of_clouds = [None]
        ahead = clouds_ahead(sky.turns)
        while (rounds is None or len(self.costs) <= rounds) and not self.is_steady():
            costs = self.costs[-1]
            found = costs_of_clouds(sky, ahead, costs)
            better = [cost_alone(sky, found, number, cost) for number, cost in enumerate(costs)]
            self.of_clouds.append(found)
            self.costs.append(better)

    def is_steady(self):
        """Whether the last round made nothing cheaper: then none behind it does."""
        return len(self.costs) > 1 and self.costs[-1] == self.costs[-2]

    def level(self, rounds):
        """The number of rounds, not above the last one that was looked at, that has the costs of so many."""
        return min(rounds, len(self.costs) - 1)

    def least_cost(self, rounds):
        """The least cost of the first situation."""
        return self.costs[self.level(rounds)][0]


def cost_alone(sky, found, number, cost):
    """The cost of the cloud of a situation alone; of one that has none, its cost stays."""
    return found[sky.places[(number,)]] if (number,) in sky.places else cost


def costs_of_clouds(sky, ahead, costs):
    """For each cloud the least cost from it on, where the round may end in it or behind more questions, and
    these are the costs of the situations with a round less. Told from the least ones.
    """
    found = [greatest([costs[number] for number in cloud]) for cloud in sky.clouds]
    waiting = {}
    for at, cost in enumerate(found):
        if cost is not None:
            waiting.setdefault(cost, []).append(at)
    while waiting:
        cost = min(list(waiting))
        level = waiting.pop(cost)
        formers = [former for at in level if found[at] == cost for former in ahead[at]]
        for former in formers:
            if found[former] is None or found[former] > cost + 1:
                found[former] = cost + 1
                waiting.setdefault(cost + 1, []).append(former)
    return found


def greatest(costs):
    """The greatest of some costs; None, for never, is greater than all."""
    return None if None in costs else max(costs)


def clouds_ahead(turns):
    """For each cloud those which some question turns into it."""
    ahead = [[] for _ in turns]
    for at, row in enumerate(turns):
        for behind in row:
            ahead[behind].append(at)
    return ahead
