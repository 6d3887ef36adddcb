"""Help among regions: what each group of regions would pay alone, fair shares of what they pay together; and debts."""
