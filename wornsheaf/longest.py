"""The most deeds that a sheaf has left, for breadth 1."""
from wornsheaf.ends import cap, low_end
from wornsheaf.sheaf import Sheaf


def own_low(sheaf, index):
    """Return the low end of the sheets that are no sharper than that sheet."""
    sharpness = sheaf.sharpness_of(index)
    return low_end(Sheaf([row for row in sheaf if row[0] <= sharpness]))


def deeds_left(sheaf):
    """Return the number of deeds of a longest log."""
    total = 0
    for index, row in enumerate(sheaf):
        # For breadth 1 a cap is a power of 2.
        total += cap(row[0], own_low(sheaf, index)) - 1
    return total


def longest_log(sheaf):
    """Return a complete log with as many deeds as the sheaf has left."""
    # Near deeds over sheets of the bottom waste none of the deeds left.
    sharpnesses = [row[0] for row in sheaf]
    log = []
    while min(sharpnesses) < max(sharpnesses):
        bottom = min(sharpnesses)
        above = min([sharpness for sharpness in sharpnesses if sharpness > bottom])
        source = sharpnesses.index(above)
        target = sharpnesses.index(bottom)
        sharpnesses[source] = above - 1
        sharpnesses[target] = above - 1
        log.append((source, (target,)))
    return log
