"""Check signs, and how much damage bars bear before they are those of another text.

A table has the place (SUM * W + SUM) * 2 + UNLIKE for each two sums and like or unlike texts, W being the number of
words; the items there are bounds of the numbers of modules in which two such texts differ.
"""

from labelhouse.bars import bars_of, is_text, need_book, need_text
from labelhouse.errors import BadPaper, OutOfPlace, TooGreat
from labelhouse.values import is_between, is_row, is_whole

MOST_WORDS = 10
MOST_SIGNS = 40


def need_weights(weights):
    """Refuse what are no WEIGHTS."""
    if not isinstance(weights, tuple) or not 1 <= len(weights) <= 12:
        raise OutOfPlace("weights are a tuple of 1 to 12 integers")
    if not all([is_between(weight, 0, 35) for weight in weights]):
        raise OutOfPlace("a weight is an integer from 0 to 35")


def sum_of(book, weights, text):
    """The number of the CHECK SIGN of a text, of what has been looked at."""
    numbers = {sign: number for number, (sign, _) in enumerate(book[2])}
    parts = [weights[at % len(weights)] * numbers[sign] for at, sign in enumerate(text)]
    return sum(parts) % len(book[2])


def check_sign_of(book, weights, text):
    """The CHECK SIGN of a text, of what has been looked at."""
    return book[2][sum_of(book, weights, text)][0]


def check_sign(book, weights, text):
    """The CHECK SIGN of a text."""
    need_book(book)
    need_weights(weights)
    need_text(book, text)
    return check_sign_of(book, weights, text)


def distance(one, other):
    """In how many places two strings of the same length differ."""
    return len([True for sign, far in zip(one, other) if sign != far])


def differing_of(book, weights, one, other):
    """In how many MODULES the BARS of two CHECKED texts differ, of what has been looked at."""
    rows = [bars_of(book, text + check_sign_of(book, weights, text)) for text in (one, other)]
    return distance(rows[0], rows[1])


def differing(book, weights, one, other):
    """In how many MODULES the BARS of two texts, with their CHECK SIGNS, differ."""
    need_book(book)
    need_weights(weights)
    need_text(book, one)
    need_text(book, other)
    if len(one) != len(other):
        raise OutOfPlace("these texts are not as long as one another")
    return differing_of(book, weights, one, other)


def need_few_words(book, weights, many):
    """Refuse what is no BOOK, or one of too many WORDS, then no WEIGHTS, then no number of SIGNS."""
    need_book(book)
    if len(book[2]) > MOST_WORDS:
        raise TooGreat(MOST_WORDS)
    need_weights(weights)
    if not is_between(many, 1, MOST_SIGNS):
        raise OutOfPlace("this is no number of signs")


def gaps_of(book):
    """A list of triples: two numbers of words, and in how many MODULES these differ."""
    words = [word for _, word in book[2]]
    return [(one, other, distance(word, far)) for one, word in enumerate(words) for other, far in enumerate(words)]


def place_of(many, one, other, unlike):
    """The place of two sums in a table, many being the number of words."""
    return (one * many + other) * 2 + unlike


def moves_from(book, weight, place, gaps):
    """A list of tuples (PLACE, MODULES, ONE, OTHER): where a place leads by a sign more, of these numbers, in both."""
    many = len(book[2])
    left, right, unlike = place // 2 // many, place // 2 % many, place % 2
    found = []
    for one, other, modules in gaps:
        sums = ((left + weight * one) % many, (right + weight * other) % many)
        found.append((place_of(many, sums[0], sums[1], 1 if one != other else unlike), modules, one, other))
    return found


def next_table(book, weight, table, gaps):
    """The table of one sign more than in a table, and how its places are reached: (PLACE AHEAD, ONE, OTHER)."""
    least = [None] * len(table)
    ways = [None] * len(table)
    for place, bound in enumerate(table):
        if bound is not None:
            for behind, modules, one, other in moves_from(book, weight, place, gaps):
                if least[behind] is None or bound + modules < least[behind]:
                    least[behind] = bound + modules
                    ways[behind] = (place, one, other)
    return least, ways


def least_tables(book, weights, many):
    """Lists of all tables, each with the least numbers of MODULES, and of the ways to their places."""
    words = len(book[2])
    gaps = gaps_of(book)
    tables = [[0] + [None] * (words * words * 2 - 1)]
    ways = [[]]
    for at in range(many):
        table, way = next_table(book, weights[at % len(weights)], tables[at], gaps)
        tables.append(table)
        ways.append(way)
    return tables, ways


def ends(book, table):
    """An ascending list of pairs (MODULES, PLACE) of the unlike places of the last table, with the check signs."""
    many = len(book[2])
    return sorted([
        (table[place_of(many, one, other, 1)] + modules, place_of(many, one, other, 1))
        for one, other, modules in gaps_of(book)
        if table[place_of(many, one, other, 1)] is not None
    ])


def least_damage(book, weights, many):
    """The LEAST DAMAGE of so many SIGNS."""
    need_few_words(book, weights, many)
    tables, _ = least_tables(book, weights, many)
    return ends(book, tables[many])[0][0]


def damage_paper(book, weights, many):
    """A paper of the LEAST DAMAGE of so many SIGNS."""
    need_few_words(book, weights, many)
    tables, ways = least_tables(book, weights, many)
    place = ends(book, tables[many])[0][1]
    signs = [sign for sign, _ in book[2]]
    one, other = "", ""
    for at in range(many, 0, -1):
        place, left, right = ways[at][place]
        one, other = signs[left] + one, signs[right] + other
    return one, other, tuple([tuple(table) for table in tables])


def are_tables(tables, words, many):
    """Whether a value is a tuple of a tuple of bounds for each number of SIGNS up to many."""
    if not is_row(tables, many + 1) or not all([is_row(table, words * words * 2) for table in tables]):
        return False
    return all([bound is None or is_whole(bound) for table in tables for bound in table])


def leads_well(book, weight, table, behind, gaps):
    """Whether no bound of a table behind is greater than one that leads there allows."""
    for place, bound in enumerate(table):
        if bound is not None:
            for to, modules, _, _ in moves_from(book, weight, place, gaps):
                if behind[to] is None or behind[to] > bound + modules:
                    return False
    return True


def tables_show(book, weights, many, tables, damage):
    """Whether TABLES show that no two texts differ in fewer MODULES."""
    if not are_tables(tables, len(book[2]), many) or tables[0][0] is None or tables[0][0] > 0:
        return False
    gaps = gaps_of(book)
    for at in range(many):
        if not leads_well(book, weights[at % len(weights)], tables[at], tables[at + 1], gaps):
            return False
    return all([modules >= damage for modules, _ in ends(book, tables[many])])


def check_damage(book, weights, many, paper):
    """The LEAST DAMAGE that a paper shows."""
    need_few_words(book, weights, many)
    if not is_row(paper, 3):
        raise BadPaper("form")
    one, other, tables = paper
    for text in (one, other):
        if not is_text(book, text) or len(text) != many:
            raise BadPaper("texts")
    if one == other:
        raise BadPaper("texts")
    damage = differing_of(book, weights, one, other)
    if not tables_show(book, weights, many, tables, damage):
        raise BadPaper("tables")
    return damage
