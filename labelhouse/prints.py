"""Prints: settings of a row of prints, told as seldom as can be.

What is wanted between resets is known ahead: sets[J] is how many "set" are wanted for the first J of some WANTS.
The costs of a DESIRE are those up to, and with, a "reset" right ahead of each WANT, and at last of one behind them all.
"""

from labelhouse.errors import BadDesire, BadPaper, OutOfPlace, TooGreat
from labelhouse.values import is_between, is_one_of, is_row, is_whole

MOST_WANTS = 60
MOST_REGISTERS = 6
MOST_COMMANDS = 1000
MOST_IN_ROUNDS = 20
MOST_TIMES = 10 ** 30


def is_want(value, many):
    """Whether a value is a WANT for so many REGISTERS."""
    if not is_row(value, many):
        return False
    return all([item is None or is_between(item, 0, 9) for item in value])


def need_desire(thing):
    """Give a DESIRE back; refuse anything else with the number of the first thing that is no WANT, or None."""
    if not isinstance(thing, tuple) or not 1 <= len(thing) <= MOST_WANTS:
        raise BadDesire(None)
    if not isinstance(thing[0], tuple) or not 1 <= len(thing[0]) <= MOST_REGISTERS:
        raise BadDesire(None)
    for number, want in enumerate(thing):
        if not is_want(want, len(thing[0])):
            raise BadDesire(number)
    return thing


def need_start(desire, start):
    """Refuse what is no START for a DESIRE that has been looked at."""
    if not is_want(start, len(desire[0])):
        raise OutOfPlace("this is no start for the desire")


def need_both(desire, start):
    """Refuse what is no DESIRE, then what is no START for it."""
    need_desire(desire)
    need_start(desire, start)


def is_command(value, many):
    """Whether any value is one of the commands of a PROGRAM for so many REGISTERS."""
    if is_row(value, 1):
        return is_one_of(value[0], ("reset", "print"))
    if not is_row(value, 3) or not is_one_of(value[0], ("set",)):
        return False
    return is_between(value[1], 0, many - 1) and is_between(value[2], 0, 9)


def is_program(value, many):
    """Whether any value is a PROGRAM for so many REGISTERS."""
    if not isinstance(value, tuple) or len(value) > MOST_COMMANDS:
        return False
    return all([is_command(command, many) for command in value])


def prints_made(start, commands):
    """The list of what stands in the REGISTERS at each "print"."""
    held = list(start)
    found = []
    for command in commands:
        if command[0] == "set":
            held[command[1]] = command[2]
        elif command[0] == "reset":
            held = [0] * len(held)
        else:
            found.append(tuple(held))
    return found


def wanted(want, held):
    """The list of the numbers of the REGISTERS in which something else stands than a WANT tells."""
    return [at for at, (item, value) in enumerate(zip(want, held)) if item is not None and item != value]


def held_behind(want, held):
    """What stands in the REGISTERS when all that a WANT tells has been set."""
    return tuple([value if item is None else item for item, value in zip(want, held)])


def is_serving(desire, start, value):
    """As serves, of a DESIRE and a START that have been looked at."""
    if not is_program(value, len(start)):
        return False
    made = prints_made(start, value)
    return len(made) == len(desire) and all([wanted(want, held) == [] for want, held in zip(desire, made)])


def serves(desire, start, thing):
    """Whether any value is a PROGRAM that serves a DESIRE from START."""
    need_both(desire, start)
    return is_serving(desire, start, thing)


def sets_of(wants, held):
    """The list of how many "set" are wanted for the first J of some WANTS, J from 0 on to all."""
    sets = [0]
    for want in wants:
        sets.append(sets[-1] + len(wanted(want, held)))
        held = held_behind(want, held)
    return sets


def reset_sets(desire):
    """For each number of a WANT, the sets of the WANTS from it on when a "reset" is right ahead of it."""
    return [sets_of(desire[number:], (0,) * len(desire[0])) for number in range(len(desire))]


def limits(first, parts, costs, to):
    """What the costs up to a "reset" ahead of a WANT are at most: without another one, or with each one ahead of it."""
    return [first[to] + 1] + [costs[at] + parts[at][to - at] + 1 for at in range(to)]


def costs_of(first, parts):
    """The least costs of a DESIRE, first being the sets from its start on, and parts those from each "reset" on."""
    costs = []
    for to in range(len(parts) + 1):
        costs.append(min(limits(first, parts, costs, to)))
    return costs


def resets_of(first, parts, costs):
    """The numbers of the WANTS right ahead of which a "reset" stands in a PROGRAM with the least COST."""
    found = []
    to = len(parts)
    while costs[to] != first[to] + 1:
        to = limits(first, parts, costs, to).index(costs[to]) - 1
        found.append(to)
    return found


def commands_of(desire, start, resets):
    """The PROGRAM with a "reset" right ahead of some WANTS that sets what is wanted."""
    commands = []
    held = start
    for number, want in enumerate(desire):
        if number in resets:
            commands.append(("reset",))
            held = (0,) * len(start)
        commands.extend([("set", at, want[at]) for at in wanted(want, held)])
        commands.append(("print",))
        held = held_behind(want, held)
    return tuple(commands)


def paper_of(desire, start):
    """As commands_paper, of what has been looked at."""
    first, parts = sets_of(desire, start), reset_sets(desire)
    costs = costs_of(first, parts)
    # What is left out of the last costs is the "reset" behind all WANTS.
    return commands_of(desire, start, resets_of(first, parts, costs)), tuple(costs[1:-1]), costs[-1] - 1


def fewest_commands(desire, start):
    """FEWEST: the least COST of a PROGRAM that serves."""
    need_both(desire, start)
    return paper_of(desire, start)[2]


def program(desire, start):
    """A PROGRAM that serves with the least COST."""
    need_both(desire, start)
    return paper_of(desire, start)[0]


def commands_paper(desire, start):
    """A paper of FEWEST."""
    need_both(desire, start)
    return paper_of(desire, start)


def cost_of(commands):
    """The COST of a PROGRAM."""
    return len([True for command in commands if command[0] != "print"])


def are_bounds(desire, start, bounds, cost):
    """Whether a value is BOUNDS that show that no PROGRAM has a lower COST."""
    if not is_row(bounds, len(desire) - 1) or not all([is_whole(bound) for bound in bounds]):
        return False
    first, parts = sets_of(desire, start), reset_sets(desire)
    costs = (1,) + bounds + (cost + 1,)
    return all([costs[to] <= min(limits(first, parts, costs, to)) for to in range(1, len(costs))])


def check_commands(desire, start, paper):
    """FEWEST, as a paper shows it."""
    need_both(desire, start)
    if not is_row(paper, 3):
        raise BadPaper("form")
    commands, bounds, cost = paper
    if not is_serving(desire, start, commands) or not is_whole(cost) or cost != cost_of(commands):
        raise BadPaper("program")
    if not are_bounds(desire, start, bounds, cost):
        raise BadPaper("bounds")
    return cost


def round_costs(desire, start, parts):
    """The list of the least COST of a round from what stands in the REGISTERS on, by the place of its last "reset".

    A round without one ends as with one ahead of all WANTS, as far as a WANT tells, so they share the place 0.
    """
    first = sets_of(desire, start)
    costs = costs_of(first, parts)
    ended = [cost + sets[-1] for cost, sets in zip(costs, parts)]
    ended[0] = min(ended[0], first[-1])
    return ended


def held_at_end(wants):
    """What stands in the REGISTERS behind a "reset" and these WANTS."""
    held = (0,) * len(wants[0])
    for want in wants:
        held = held_behind(want, held)
    return held


def gone_on(costs, table):
    """The least costs to come to each place from places that have costs, table having those of each way."""
    return [min([cost + row[to] for cost, row in zip(costs, table)]) for to in range(len(table))]


def fewest_rounds(desire, start, times):
    """FEWEST of so many rounds of a DESIRE."""
    need_desire(desire)
    if len(desire) > MOST_IN_ROUNDS:
        raise TooGreat(MOST_IN_ROUNDS)
    need_start(desire, start)
    if not is_between(times, 1, MOST_TIMES):
        raise OutOfPlace("this is no number of rounds")
    parts = reset_sets(desire)
    costs = round_costs(desire, start, parts)
    table = [round_costs(desire, held_at_end(desire[place:]), parts) for place in range(len(desire))]
    left = times - 1
    while left > 0:
        if left % 2 == 1:
            costs = gone_on(costs, table)
        table = [gone_on(row, table) for row in table]
        left = left // 2
    return min(costs)
