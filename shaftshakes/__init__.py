"""How shafts with discs swing, decided for all paces, amounts, orders and speeds."""
