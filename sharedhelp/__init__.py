"""Help among regions: what each group of regions would pay alone, and fair shares of what they pay together."""
