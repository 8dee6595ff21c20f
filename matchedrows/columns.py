"""How the columns of two tables are matched, and what that costs."""

from matchedrows.rising import out_of_order

UNLIKE_NAMES_COST = 2
LONE_COLUMN_COST = 4


def same_name_pairs(old_names, new_names):
    return [(old_names.index(name), new) for new, name in enumerate(new_names) if name in old_names]


def columns_cost(old_names, new_names, pairs):
    unlike = [old for old, new in pairs if old_names[old] != new_names[new]]
    moved = out_of_order([old for old, new in pairs])
    lone = len(old_names) + len(new_names) - 2 * len(pairs)
    return UNLIKE_NAMES_COST * len(unlike) + moved + LONE_COLUMN_COST * lone
