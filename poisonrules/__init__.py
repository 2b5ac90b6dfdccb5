"""Rules over words with undefined and poisoned worths, shown at every width."""
